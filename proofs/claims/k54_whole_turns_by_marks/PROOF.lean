import PyProof.Rows.All
import Wide.All
import OpenK.AllK
import Wide.FinOn
import Lean
import PyProof.EqAt
import PyProof.EqKinds
import PyProof.TupleCall
import PyProof.NeKinds
import KE.KTabLook
import KE.KIntText
import KE.KUnpack
import PyProof.StrBlock2
import KE.KLam
import KE.KDictLaws
import PyProof.DictWalks
import PyProof.Rows.StrInSeq3
import PyProof.FactsAll.list_1
import PyProof.Rows.SortShellK
import PyProof.Rows.SortKeyStr
import KE.KSortTup
import KE.KDictSum
import KE.KItemsList
import PyProof.Rows.SortStr
import PyProof.ZipIter
import PyProof.Draws
import PyProof.AttrMissHeap
import PyProof.DictUpdate
import PyProof.ListNew
import PyProof.FactsAll.dict_1
import PyProof.Rows.DictSet
import PyProof.ForAppend
import KE.KDictList
import PyProof.TupleIter
import PyProof.CompUse
import PyProof.EnumMake
import PyProof.Rows.CallKwBuiltin
import OpenK.KMore
import PyProof.SeqWrite
import PyProof.FactsAll.list_4
import PySem.Challenge.RW_anydelay_k54_whole_turns_by_marks
namespace PySem
abbrev A0:=Value->Shared->Prop
abbrev A1:=List (Addr × Obj)
abbrev A2:=Str->Option Value
abbrev A3:=List Addr
end PySem
set_option linter.all false
set_option maxRecDepth 100000
set_option Elab.async false
abbrev Qa:=@PySem.wpAny_bind
abbrev Qb:=@PySem.Heap.get?_push_of_some
abbrev Qc:=@List.getElem?_eq_getElem
abbrev Qd:=@List.length_map
abbrev Qe:=@List.getElem?_eq_some_iff
abbrev Qf:=@PySem.wpAny_pure
abbrev Qg:=@Nat.le_refl
abbrev Qh:=@List.mem_cons
abbrev Qi:=@List.size_toArray
abbrev Qj:=@List.mem_map
abbrev Qk:=@List.mem_of_getElem?
abbrev Ql:=@Array.length_toList
abbrev Qm:=@Bool.false_ne_true
abbrev Qn:=@List.length_append
abbrev Qo:=@List.mem_cons_of_mem
abbrev Qp:=@PySem.Heap.lt_size
abbrev Qq:=@PySem.Heap.get?_push_size
abbrev Qr:=@if_neg
abbrev Qs:=@List.getElem?_map
abbrev Qt:=@if_pos
abbrev Qu:=@List.map_cons
abbrev Qv:=@decide_eq_false
abbrev Qw:=@List.mem_append
abbrev Qx:=@decide_eq_true
abbrev Qy:=@List.getD_eq_getElem?_getD
abbrev Qz:=@PySem.F.plainAttrs_list
abbrev QA:=@List.not_mem_nil
abbrev QB:=@List.mem_singleton
abbrev QC:=@Nat.ne_of_lt
abbrev QE:=@Bool.false_eq_true
abbrev QF:=@List.mem_append_right
abbrev QG:=@Nat.le_trans
abbrev QH:=@Array.getElem?_eq_getElem
abbrev QI:=@Nat.le_add_right
abbrev QJ:=@Option.some.inj
abbrev QK:=@List.idxOf_lt_length_of_mem
abbrev QL:=@Nat.lt_of_lt_of_le
abbrev QM:=@List.getElem?_append_left
abbrev QN:=@List.nodup_cons
abbrev QO:=@List.length_take
abbrev QP:=@Nat.zero_le
abbrev QQ:=@List.getElem?_append_right
abbrev QR:=@List.mem_filter
abbrev QS:=@PySem.W.mg_none_of
abbrev QT:=@List.length_singleton
abbrev QU:=@List.getElem?_eq_none
abbrev QV:=@PySem.F.slot_list_append
abbrev QW:=@PySem.F.type_list_append
abbrev QX:=@Int.toNat_natCast
abbrev QY:=@List.pairwise_map
abbrev QZ:=@List.lookup_cons
abbrev Q0:=@List.map_map
abbrev Q2:=@Array.getElem?_toList
abbrev Q3:=@List.map_append
abbrev Q4:=@List.take_of_length_le
abbrev Q5:=@PySem.wpAny_call_entry
abbrev Q6:=@List.mem_append_left
abbrev Q7:=@List.all_eq_true
abbrev Q8:=@List.getElem_of_mem
abbrev Q9:=@PySem.wpAny_holding
abbrev Xa:=@PySem.boot_len
abbrev Xb:=@List.getElem_mem
abbrev Xc:=@PySem.F.slot_list_index
abbrev Xd:=@PySem.F.type_list_index
abbrev Xe:=@PySem.Heap.get?_update_self
abbrev Xf:=@PySem.Heap.SameBut.update
abbrev Xg:=@PySem.Heap.get?_update_other
abbrev Xh:=@Array.getD_eq_getD_getElem?
abbrev Xi:=@PySem.Paired.length
abbrev Xj:=@PySem.Around.under_plainId
abbrev Xk:=@or_false
abbrev Xl:=@List.mem_cons_self
abbrev Xm:=@List.mem_range
abbrev Xo:=@PySem.wpAny_callSpecial?_slot
abbrev Xp:=@List.length_cons
abbrev Xq:=@PySem.wpAny_setState_of
abbrev Xr:=@PySem.Heap.size_push
abbrev Xs:=@if_false
abbrev Xu:=@PySem.wpAny_field
abbrev Xv:=@Option.map_eq_some_iff
abbrev Xw:=@PySem.Obj.data_mapFields
abbrev Xx:=@PySem.wpAny_seqItems
abbrev Xy:=@PySem.codeAny_builtin
abbrev Xz:=@Bool.and_eq_true
abbrev XA:=@List.length_filter_le
abbrev XB:=@PyProof.Rows.boot_int
abbrev XC:=@PyProof.Rows.callWith_type1
abbrev XD:=@of_decide_eq_true
abbrev XE:=@PySem.wpAny_newObj_type
abbrev XF:=@List.nodup_append
abbrev XG:=@Nat.lt_of_le_of_lt
abbrev XH:=@PySem.sizeLine_eq
abbrev XI:=@PySem.wpAny_setField_rec
abbrev XJ:=@List.getElem?_eq_none_iff
abbrev XM:=@PySem.wpAny_mono
abbrev XN:=@Nat.le_succ
abbrev XO:=@List.length_erase_of_mem
abbrev XQ:=@PySem.F.slot_dict_keyiterator_next
abbrev XR:=@PySem.Calls.spliced_cons
abbrev XS:=@List.length_drop
abbrev XT:=@decide_eq_decide
abbrev XU:=@Bool.not_true
abbrev XV:=@Nat.lt_irrefl
local macro_rules|`(tactic|z_go)=>`(tactic|first|exact .inl rfl|exact .inr rfl|assumption)
noncomputable section
namespace L2
open PySem
def cH (s:Stmt):Arguments:=match s with
 | .FunctionDef _ a _ _ _ _ _ _ _ _=>a
 | _=>{ posonlyargs:=[],args:=[],vararg:=none,kwonlyargs:=[],kw_defaults:=[],kwarg:=none,defaults:=[] }
def bP (s:Stmt):List Stmt:=match s with
 | .FunctionDef _ _ b _ _ _ _ _ _ _=>b
 | _=>[]
def ax (s:Stmt):Scope:=match s with
 | .FunctionDef _ _ _ _ _ _ sc _ _ _=>sc
 | _=>{ kind:=.function,names:=[],isGenerator:=false,isCoroutine:=false }
end L2
namespace K2
open PySem L2 PySem.W
def top (i:Nat):Stmt:=PySem.Challenge.pw_anydelay_k54_whole_turns_by_marks.main.body.getD i (.Pass ⟨0,0,0,0⟩)
noncomputable def kC (n:Str) (t:Nat) (l a fl:Int) (r:Addr) (x y:Value) (z:Addr) (u:Nat):Obj:={ cls:=.type "code", data:=.fields #[.str n t,.str n (t+1),.str "/claim/cut.py" (t+2),.int l 0,.int a 0,.int 0 0,.int 0 0,.int 3 0,.ref r,.bool true,.int fl 0,.ref (r+1),.none,x,y,.ref z,.int u 0,.int l 0,.str "/claim/cut.py" (u+1)] }
noncomputable def kF (n:Str) (i:Nat) (m:Str) (t:Nat) (c:Addr):Obj:={ cls:=.type "function", data:=.func { name:=n,qualname:=n,params:=cH (top i),body:=.stmts (bP (top i)),scope:=ax (top i),globals:=3,closure:=[],defaults:=.none,kwdefaults:=.none,pyModule:=.str m t,code:=.ref c } }
def kE (P:Params) (x:Str) (t:Nat) (v:Value):DictEntry:={ hash:=PyData.keyHash P x,key:=.str x t,val:=v }
noncomputable def KF (P:Params):Frag:=[(3,{ cls:=.type "dict", data:=.dict #[kE P "__name__" 165 (.str "law_anydelay_k54_whole_turns_by_marks" 332),kE P "__doc__" 166 .none,kE P "__package__" 167 .none,kE P "__loader__" 168 (.builtin "__main__.__loader__#opaque"),kE P "__spec__" 169 .none,kE P "__annotations__" 170 (.ref 6),kE P "__builtins__" 171 (.ref 4),kE P "__file__" 173 (.str "/claim/cut.py" 172),kE P "__cached__" 174 .none,kE P "TURNED" 195 (.ref 15),kE P "turned_at" 203 (.ref 22),kE P "found_from" 220 (.ref 29),kE P "MOST_NODES" 224 (.int 40 223),kE P "row_behind" 233 (.ref 36),kE P "rows_found" 246 (.ref 43),kE P "signs_of" 252 (.ref 48),kE P "SIGNS_AHEAD" 261 (.ref 49),kE P "waiting_turns" 267 (.ref 54),kE P "first_marks" 273 (.ref 59),kE P "may_come" 279 (.ref 64),kE P "mark_behind" 288 (.ref 71),kE P "marks_behind" 294 (.ref 76),kE P "steps_at" 305 (.ref 83),kE P "odd_word" 316 (.ref 90),kE P "unfolded" 331 (.ref 97),kE P "_law_pool" 342 (.ref 104),kE P "_law_take" 353 (.ref 111),kE P "_law_names" 359 (.ref 116),kE P "_law_order" 369 (.ref 123),kE P "_law_arcs" 375 (.ref 128),kE P "_law_ring" 381 (.ref 133),kE P "_law_may" 387 (.ref 138),kE P "_law_behind" 399 (.ref 145),kE P "_law_walk" 405 (.ref 150),kE P "_law_round" 411 (.ref 155),kE P "law" 423 (.ref 162)] 36 }),
 (15,{ cls:=.type "dict", data:=.dict #[kE P "0" 189 (.str "1" 190),kE P "1" 191 (.str "0" 192)] 2 }),
 (21,kC "turned_at" 196 3 2 181 16 (.ref 18) (.ref 19) 20 201),
 (22,kF "turned_at" 2 "anydelay.nets" 187 21),
 (28,kC "found_from" 206 6 2 181 23 (.ref 25) (.ref 26) 27 218),
 (29,kF "found_from" 4 "anydelay.orders" 204 28),
 (35,kC "row_behind" 225 23 3 181 30 (.ref 32) (.ref 33) 34 231),
 (36,kF "row_behind" 7 "anydelay.sheets" 221 35),
 (42,kC "rows_found" 234 25 1 181 37 (.ref 39) (.ref 40) 41 244),
 (43,kF "rows_found" 8 "anydelay.sheets" 221 42),
 (47,kC "signs_of" 247 32 1 181 44 .none .none 46 250),
 (48,kF "signs_of" 9 "anydelay.sheets" 221 47),
 (49,{ cls:=.type "dict", data:=.dict #[kE P "+" 255 (.str "0" 256),kE P "-" 257 (.str "1" 258)] 2 }),
 (53,kC "waiting_turns" 262 37 1 181 50 .none .none 52 265),
 (54,kF "waiting_turns" 12 "anydelay.turnsheets" 253 53),
 (58,kC "first_marks" 268 39 1 181 55 .none .none 57 271),
 (59,kF "first_marks" 13 "anydelay.turnsheets" 253 58),
 (63,kC "may_come" 274 41 3 181 60 .none .none 62 277),
 (64,kF "may_come" 14 "anydelay.turnsheets" 253 63),
 (70,kC "mark_behind" 280 43 3 181 65 (.ref 67) (.ref 68) 69 286),
 (71,kF "mark_behind" 15 "anydelay.turnsheets" 253 70),
 (75,kC "marks_behind" 289 47 3 181 72 .none .none 74 292),
 (76,kF "marks_behind" 16 "anydelay.turnsheets" 253 75),
 (82,kC "steps_at" 295 49 2 181 77 (.ref 79) (.ref 80) 81 303),
 (83,kF "steps_at" 17 "anydelay.turnsheets" 253 82),
 (89,kC "odd_word" 306 56 3 181 84 (.ref 86) (.ref 87) 88 314),
 (90,kF "odd_word" 18 "anydelay.turnsheets" 253 89),
 (96,kC "unfolded" 317 62 1 181 91 (.ref 93) (.ref 94) 95 329),
 (97,kF "unfolded" 19 "anydelay.turnsheets" 253 96),
 (103,kC "_law_pool" 334 84 2 181 98 (.ref 100) (.ref 101) 102 340),
 (104,kF "_law_pool" 21 "law_anydelay_k54_whole_turns_by_marks" 332 103),
 (110,kC "_law_take" 343 91 2 181 105 (.ref 107) (.ref 108) 109 351),
 (111,kF "_law_take" 22 "law_anydelay_k54_whole_turns_by_marks" 332 110),
 (115,kC "_law_names" 354 102 2 181 112 .none .none 114 357),
 (116,kF "_law_names" 23 "law_anydelay_k54_whole_turns_by_marks" 332 115),
 (122,kC "_law_order" 360 120 2 181 117 (.ref 119) (.ref 120) 121 367),
 (123,kF "_law_order" 24 "law_anydelay_k54_whole_turns_by_marks" 332 122),
 (127,kC "_law_arcs" 370 126 3 181 124 .none .none 126 373),
 (128,kF "_law_arcs" 25 "law_anydelay_k54_whole_turns_by_marks" 332 127),
 (132,kC "_law_ring" 376 140 1 181 129 .none .none 131 379),
 (133,kF "_law_ring" 26 "law_anydelay_k54_whole_turns_by_marks" 332 132),
 (137,kC "_law_may" 382 162 3 181 134 .none .none 136 385),
 (138,kF "_law_may" 27 "law_anydelay_k54_whole_turns_by_marks" 332 137),
 (144,kC "_law_behind" 388 168 3 181 139 (.ref 141) (.ref 142) 143 397),
 (145,kF "_law_behind" 28 "law_anydelay_k54_whole_turns_by_marks" 332 144),
 (149,kC "_law_walk" 400 173 4 181 146 .none .none 148 403),
 (150,kF "_law_walk" 29 "law_anydelay_k54_whole_turns_by_marks" 332 149),
 (154,kC "_law_round" 406 199 2 181 151 .none .none 153 409),
 (155,kF "_law_round" 30 "law_anydelay_k54_whole_turns_by_marks" 332 154),
 (161,kC "law" 412 213 1 181 156 (.ref 158) (.ref 159) 160 421),
 (162,kF "law" 31 "law_anydelay_k54_whole_turns_by_marks" 332 161)]
def hk:Hook:=kmHook KF [3,15,21,22,28,29,35,36,42,43,47,48,49,53,54,58,59,63,64,70,71,75,76,82,83,89,90,96,97,103,104,110,111,115,116,122,123,127,128,132,133,137,138,144,145,149,150,154,155,161,162] (λ_=>rfl) [38]
noncomputable def vw:Program:={ PySem.Challenge.pw_anydelay_k54_whole_turns_by_marks with main:={ PySem.Challenge.pw_anydelay_k54_whole_turns_by_marks.main with body:=[1,2,4,6,7,8,9,11,12,13,14,15,16,17,18,19,21,22,23,24,25,26,27,28,29,30,31].map top } }
def LW (w:World):Prop:=(openEnds treeTable PySem.Challenge.rw_anydelay_k54_whole_turns_by_marks.prog w 1828).map (λs=>(openSeen vw [("TURNED" : Str),("SIGNS_AHEAD" : Str)] (importedModules PySem.Challenge.rw_anydelay_k54_whole_turns_by_marks.prog.main.body) (λs=>xlAt vw [] s&&recOk (RowW.records PySem.Challenge.rw_anydelay_k54_whole_turns_by_marks.row.toRowW) s) true s,Hook.obs hk s))=some (openGood vw [("TURNED" : Str),("SIGNS_AHEAD" : Str)],Hook.val hk w)
set_option maxHeartbeats 0 in
theorem sd:PySem.Challenge.rw_anydelay_k54_whole_turns_by_marks.wellSaid=true:=by kernel_rfl
set_option maxHeartbeats 0 in
theorem xS:∀w:World,LW (w.withFollow "special-get-raises" false):=λw=>by unfold LW;kernel_rfl
set_option maxHeartbeats 0 in
theorem xR:∀w:World,LW (w.withFollow "special-get-raises" true):=λw=>by unfold LW;kernel_rfl
theorem left:LeftO PySem.Challenge.rw_anydelay_k54_whole_turns_by_marks.prog vw [("TURNED" : Str),("SIGNS_AHEAD" : Str)] (λs=>xlAt vw [] s&&recOk (RowW.records PySem.Challenge.rw_anydelay_k54_whole_turns_by_marks.row.toRowW) s) (Hook.obs hk) (Hook.val hk) 1828:=λw=>byRow2 (P:=LW) "special-get-raises" xS xR w
end K2
section
variable {a b c d e f g h i j k l m n x r lo:Nat}
local macro_rules | `(tactic|kd_p) => `(tactic| (intros; first | solve_by_elim (maxDepth := 3) [Nat.le_of_lt, QL, XG, QG, Nat.lt_of_not_ge, Nat.lt_of_not_le, Nat.le_of_not_lt, Nat.ge_of_not_lt, QI, Nat.le_add_left, Nat.sub_le, Nat.lt_succ_self, XN, Nat.add_le_add_left, Nat.add_le_add_right, Nat.add_lt_add_left, Nat.add_lt_add_right, Nat.succ_le_of_lt, Nat.lt_of_succ_le, Nat.le_of_eq, Nat.le_antisymm, Nat.lt_of_le_of_ne, Qg, QP, Nat.sub_lt, Nat.succ_le_succ, Nat.lt_succ_of_le, Nat.le_of_lt_succ, Eq.symm, Eq.trans] | (subst_vars; solve_by_elim (maxDepth := 3) [Nat.le_of_lt, QL, XG, QG, Nat.lt_of_not_ge, Nat.lt_of_not_le, Nat.le_of_not_lt, Nat.ge_of_not_lt, QI, Nat.le_add_left, Nat.sub_le, Nat.lt_succ_self, XN, Nat.add_le_add_left, Nat.add_le_add_right, Nat.add_lt_add_left, Nat.add_lt_add_right, Nat.succ_le_of_lt, Nat.lt_of_succ_le, Nat.le_of_eq, Nat.le_antisymm, Nat.lt_of_le_of_ne, Qg, QP, Nat.sub_lt, Nat.succ_le_succ, Nat.lt_succ_of_le, Nat.le_of_lt_succ, Eq.symm, Eq.trans])))
theorem om0:a<=b->¬a<b->a=b:=by grind
theorem om1:a-b<=a-b:=by simp_all
theorem om2:¬b<a->a<=b:=by kd_p
theorem om3:c=b->b=d->a<c->a<b:=by kd_p
theorem om4:c<=b->c=a->a<=b:=by kd_p
theorem om5:a+1≠a:=by simp_all
theorem om6:b<a->a-(b+1)<a-b:=by omega
theorem om7:c=d->c=a->d=b->a=b:=by kd_p
theorem om8:a+(c+1)<b->a<b:=by grind
theorem om9:b=c->b=d->c=e->a<d->a<b:=by intros;simp_all
theorem yr:c=b->c=d->b=e->a<d->a<b:=by intros;simp_all
theorem xL:a+(b+1)<c->a+1+b<c:=by omega
theorem rO:b=c->a<c->a<b:=by kd_p
theorem xK:a<c->b=c->a<b:=by kd_p
theorem xJ:c=a->d=b->c=d->a=b:=by kd_p
theorem pF:a+64<b->a<b:=by grind
theorem t8:a+64<b->a+1+8<b:=by grind
theorem rN:c=b->a<c->a<b:=by kd_p
theorem yq:a<=b->a+1<=b+1:=by kd_p
theorem xI:a<=d+c->d<=b+1->a<=b+(c+1):=by grind
theorem xH:a<=a+1:=by simp
theorem xG:b-a=0->a<=b->a=b:=by grind
theorem xF:b-a=c+1->a<=b->a<b:=by grind
theorem xE:c<=b->a<=d->d<c->a<=b:=by grind
theorem xD:a-b=c+1->b<a->a-(b+1)=c:=by grind
theorem xC:a<b->a+1<=b:=by kd_p
theorem xB:a-b=c+1->b<a->a-b=a-(b+1)+1:=by omega
end
set_option maxHeartbeats 4000000
namespace TK
open PySem
section
variable {prog:Program} {w:World} {K:Type} [DecidableEq K] (knd:KeyKind prog w K)
def It (h:Heap):K ⊕ List K->Value->Prop
 | .inl k,v=>knd.is k v=true
 | .inr ks,v=>∃a,v=.ref a/\IsTupleKey knd h ks a
inductive Its (h:Heap):List (K ⊕ List K)->List Value->Prop
 | nil:Its h [] []
 | cons {k:K ⊕ List K} {v:Value} {ks:List (K ⊕ List K)} {vs:List Value}:It knd h k v->Its h ks vs->Its h (k::ks) (v::vs)
def IsT (h:Heap) (ks:List (K ⊕ List K)) (a:Addr):Prop:=∃o items n,h.get? a=some o/\o.cls=.type "tuple" /\ o.data=.seq items n/\Its knd h ks items.toList
def hsh:K ⊕ List K->Int
 | .inl k=>knd.hash k
 | .inr ks=>tupleKeyHash knd ks
def drw:K ⊕ List K->Nat
 | .inl _=>1
 | .inr ks=>ks.length+1
def mY (ks:List (K ⊕ List K)):Nat:=(ks.map drw).sum
def wH (ks:List (K ⊕ List K)):Int:=reduceHash (Builtin.Tuple.tupleHashOf (ks.map (hsh knd)))
variable {knd}
variable {v u:Value} {h h':Heap}
theorem It.inj {x y:K ⊕ List K} (hx:It knd h x v) (hy:It knd h y v):x=y:=by
 cases x with
 | inl k =>
  cases y with
  | inl j=>rw[knd.inj _ _ _ hx hy]
  | inr js =>
  obtain⟨a,rfl,_⟩:=hy;exact absurd (knd.byValue _ _ hx) (by simp[carriedByValue])
 | inr ks =>
 obtain⟨a,rfl,hx⟩:=hx
 cases y with
 | inl j=>exact absurd (knd.byValue _ _ hy) (by simp[carriedByValue])
 | inr js =>
 obtain⟨b,e,hy⟩:=hy;cases e;rw[hx.inj hy]
variable {x y ks:List (K ⊕ List K)}
theorem Its.inj {vs:List Value} (hx:Its knd h x vs) (hy:Its knd h y vs):x=y:=by
 induction hx generalizing y with
 | nil=>cases hy;rfl
 | cons h1 _ ih =>
 cases hy with
 | cons h2 t2=>rw[h1.inj h2,ih t2]
variable {d a b:Addr}
theorem It.keeps {k:K ⊕ List K} {o:Obj} {es ep} (x:It knd h k v) (ho:h.get? d=some o) (hd:o.data=.dict es ep) (hs:Heap.SameBut d h h'):It knd h' k v:=by
 cases k with
 | inl k=>exact x
 | inr ks=>obtain⟨a,e,x⟩:=x;exact⟨a,e,x.keeps ho hd hs⟩
theorem Its.imp {vs:List Value} (f:∀k v,It knd h k v->It knd h' k v) (x:Its knd h ks vs):Its knd h' ks vs:=by
 induction x with
 | nil=>exact .nil
 | cons h1 _ ih=>exact .cons (f _ _ h1) ih
theorem IsT.typeIs {s:Shared} (x:IsT knd s.heap ks a):s.TypeIs (.ref a) "tuple" := let ⟨o,_,_,ho,hc,_⟩:=x;⟨o,ho,hc⟩
theorem IsT.inj (hx:IsT knd h x a) (hy:IsT knd h y a):x=y:=by
 obtain⟨o,items,n,ho,_,hd,hi⟩:=hx;obtain⟨o',items',n',ho',_,hd',hi'⟩:=hy;obtain rfl:o=o':=QJ (ho.symm.trans ho');rw[hd]at hd';injection hd' with h1 _;subst h1;exact hi.inj hi'
theorem IsT.keeps {o:Obj} {es ep} (x:IsT knd h ks a) (ho:h.get? d=some o) (hd:o.data=.dict es ep) (hs:Heap.SameBut d h h'):IsT knd h' ks a:=by
 obtain⟨o',items,n,ho',hc,hd',hi⟩:=x
 have hne:a≠d:=by
  rintro rfl;obtain rfl:o'=o:=QJ (ho'.symm.trans ho);rw[hd]at hd';exact nomatch hd'
 exact⟨o',items,n,(hs.2 a hne).trans ho',hc,hd',hi.imp λk v x=>x.keeps ho hd hs⟩
variable {A:Around} {E:A0} {s:Shared}
theorem It.toks {k:K ⊕ List K} {v:Value} {t:Nat} (x:It knd s.heap k v):It knd { s with toks:=t }.heap k v:=x
theorem uA {k:K ⊕ List K} {Q:Int->Shared->Prop} (hu:A.units<cLine) (hk:It knd s.heap k v) (h:Q (hsh knd k) { s with toks:=s.toks+drw k }):wpAny (model prog w) A (pyHash v) Q E s:=by
 cases k with
 | inl k=>exact knd.pyHash hk h
 | inr ks=>obtain⟨a,rfl,hk⟩:=hk;exact wpAny_pyHash_tuple hu hk h
theorem vN {Q:Int->Shared->Prop} (hu:A.units+1<cLine) (hk:IsT knd s.heap ks a) (h:Q (wH knd ks) { s with toks:=s.toks+(mY ks+1) }) :
  wpAny (model prog w) A (pyHash (.ref a)) Q E s:=by
 have hT:=hk.typeIs;obtain⟨o,items,n,ho,_,hd,hi⟩:=hk;unfold pyHash
 first|unfold pyHashByItsType|skip
 first|refine Qa (wpAny_cRoomFor_or (.inr (Nat.lt_of_succ_lt hu)) ?_)|skip
 refine Qa (wpAny_specialOf hT F.slot_tuple_hash.lookup ?_);show wpAny _ _ (if (some (Value.builtin "tuple.__hash__")==some Value.none)=true then _ else _) Q E s;rw[Qr (by rw[beq_builtin_none];exact Qm)];refine Qa (wpAny_specialOf hT F.slot_tuple_hash.lookup ?_);show wpAny _ _ (callSpecialIfBoundUnlessNone? (.ref a) "__hash__" _ >>= _) Q E s;refine Qa (wpAny_callSpecialIfBoundUnlessNone?_slot hT F.slot_tuple_hash (Q5 F.slot_tuple_hash hT F.entry_tuple_hash ?_ (F.args_tuple_hash_1 _)));show wpAny _ _ (Builtin.Tuple.tupleItemsOf (.ref a) >>= _) _ _ s;refine Qa (wpAny_tupleItemsOf ho hd ?_);refine Qa ?_;rw[<-Array.forIn_toList]
 refine wpAny_forIn_list _
  (λrest (b:Array Int) s'=>∃done left,ks=done++left/\Its knd s.heap left rest/\b.toList=done.map (hsh knd)/\s'={ s with toks:=s.toks+mY done })
  _ ?_ ?_ _ _ ⟨[],ks,rfl,hi,rfl,rfl⟩
 ·rintro x rest b s' ⟨done,left,rfl,hl,hb,rfl⟩
  cases hl with
  | @cons k _ ks' _ h1 hl' =>
  have e:mY (done++[k])=mY done+drw k:=by simp[mY]
  refine Qa (uA (s:={ s with toks:=s.toks+mY done }) hu h1 ?_)
  first
   | exact Qf ⟨done++[k],ks',by simp,hl',by simp[hb],by simp[e,Nat.add_assoc]⟩
   | exact Qa (Qf (Qf ⟨done++[k],ks',by simp,hl',by simp[hb],by simp[e,Nat.add_assoc]⟩))
 rintro b s' ⟨done,left,rfl,hl,hb,rfl⟩;cases hl;rw[List.append_nil]at h;show wpAny _ _ (retInt (Builtin.Tuple.tupleHashOf b.toList)) _ _ _;rw[hb];refine wpAny_ret_mkInt ?_;show wpAny _ _ (if (decide (-(2:Int) ^ 63<=Builtin.Tuple.tupleHashOf (done.map (hsh knd)))&&decide (Builtin.Tuple.tupleHashOf (done.map (hsh knd))<2 ^ 63))=true then _ else _) Q E _;unfold wH reduceHash at h;by_cases hr:(decide (-(2:Int) ^ 63<=Builtin.Tuple.tupleHashOf (done.map (hsh knd)))&&decide (Builtin.Tuple.tupleHashOf (done.map (hsh knd))<2 ^ 63))=true
 ·rw[Qt hr];rw[Qt hr]at h;exact Qf (by simpa[Nat.add_assoc] using h)
 rw[Qr hr];rw[Qr hr]at h;exact Qa (wpAny_rule (Qf (by simpa[Nat.add_assoc] using h)))
def Apt (knd:KeyKind prog w K):Prop:=∀{A:Around} {E:A0} {s:Shared} {k:K} {u:Value} {a:Addr} {items:Array Value} {Q:Bool->Shared->Prop},A.units<cLine->knd.is k u=true->s.heap.IsTuple a items->Q false s ->
 wpAny (model prog w) A (eqBool u (.ref a)) Q E s/\wpAny (model prog w) A (eqBool (.ref a) u) Q E s
theorem qt {ks:List K} (x:IsTupleKey knd h ks a):∃items,h.IsTuple a items:=let ⟨o,items,n,h1,h2,h3,_⟩:=x;⟨items,o,h1,h2,n,h3⟩
variable {Q:Bool->Shared->Prop}
theorem it_eq {x y:K ⊕ List K} (ap:Apt knd) (hu:A.units<cLine) (hx:It knd s.heap x u) (hy:It knd s.heap y v) (h:Q (decide (x=y)) s):wpAny (model prog w) A (eqBool u v) Q E s:=by
 cases x with
 | inl k =>
  cases y with
  | inl j=>exact knd.eqBool hx hy (by simpa using h)
  | inr js=>obtain⟨b,rfl,hy⟩:=hy;obtain⟨_,t⟩:=qt hy;exact(ap hu hx t (by simpa using h)).1
 | inr ks =>
 obtain⟨a,rfl,hx⟩:=hx
 cases y with
 | inl j=>obtain⟨_,t⟩:=qt hx;exact(ap hu hy t (by simpa using h)).2
 | inr js=>obtain⟨b,rfl,hy⟩:=hy;exact wpAny_eqBool_tuple hu hx hy (by simpa using h)
theorem pw {P:Fin->Shared->Prop} (ap:Apt knd) (hu:A.units<cLine) (hx:IsT knd s.heap x a) (hy:IsT knd s.heap y b) (h:P (.done (.ret (.bool (decide (x=y))))) s) :
  wpAny (model prog w) A (Builtin.«tuple.__eq__» ⟨[.ref a,.ref b],[]⟩) P E s:=by
 have hTb:=hy.typeIs;obtain⟨oa,xs,na,hoa,_,hda,hia⟩:=hx;obtain⟨ob,ys,nb,hob,_,hdb,hib⟩:=hy;show wpAny _ _ (isInstance (.ref b) (.type "tuple") >>= _) _ _ s;refine Qa (wpAny_isInstance hTb isSubtype_tuple_tuple ?_);simp only[XU,QE,Xs];refine Qa (wpAny_tupleItemsOf hoa hda ?_);refine Qa (wpAny_tupleItemsOf hob hdb ?_);refine Qa ?_
 refine wpAny_forIn_list _
  (λrest r s'=>r.1=none/\s'=s/\∃x' y' xs' ys',rest=List.zip xs' ys'/\Its knd s.heap x' xs'/\Its knd s.heap y' ys'/\decide (x'=y')=decide (x=y)/\(xs'.length==ys'.length)=(xs.size==ys.size))
  _ ?_ ?_ _ _ ⟨rfl,rfl,x,y,xs.toList,ys.toList,rfl,hia,hib,rfl,by simp⟩
 ·rintro⟨u,v⟩ rest r s' ⟨hr,rfl,x',y',xs',ys',hz,hx',hy',hdec,hlen⟩
  cases hx' with
  | nil=>simp at hz
  | @cons k1 u' x'' xs'' h1 hx'' =>
  cases hy' with
  | nil=>simp at hz
  | @cons k2 v' y'' ys'' h2 hy'' =>
  simp only[List.zip_cons_cons,List.cons.injEq,Prod.mk.injEq]at hz;obtain⟨⟨rfl,rfl⟩,rfl⟩:=hz;refine Qa (it_eq ap hu h1 h2 ?_);by_cases hk:k1=k2
  ·subst hk;rw[Qx rfl];simp only[XU,QE,Xs];refine Qf ⟨rfl,rfl,x'',y'',xs'',ys'',rfl,hx'',hy'',?_,by simpa using hlen⟩;rw[<-hdec];by_cases hxy:x''=y''
   ·simp[hxy]
   simp[hxy]
  rw[Qv hk];simp only[Bool.not_false,if_true];have hf:decide (x=y)=false:=by rw[<-hdec];simp[hk]
  rw[hf]at h;exact Qa (Qf (Qf (Qf h)))
 rintro⟨r1,r2⟩ s' ⟨hr,rfl,x',y',xs',ys',hz,hx',hy',hdec,hlen⟩;simp only at hr;subst hr;refine Qf ?_
 have hfin:(xs.size==ys.size)=decide (x=y):=by
  rw[<-hdec,<-hlen]
  cases hx' with
  | nil =>
   cases hy' with
   | nil=>simp
   | cons _ _=>simp
  | cons _ _ =>
  cases hy' with
  | nil=>simp
  | cons _ _=>simp at hz
 show P (.done (.ret (.bool (xs.size==ys.size)))) s';rw[hfin];exact h
theorem t_eq (ap:Apt knd) (hu:A.units+1<cLine) (hx:IsT knd s.heap x a) (hy:IsT knd s.heap y b) (h:Q (decide (x=y)) s) :
  wpAny (model prog w) A (eqBool (.ref a) (.ref b)) Q E s:=by
 unfold eqBool
 try with_reducible refine Q9 ?_
 show wpAny _ _ (if (Value.ref a==Value.ref b)=true then _ else _) Q E s;by_cases hab:(Value.ref a==Value.ref b)=true
 ·rw[Qt hab];have e:a=b:=by have:=eq_of_beq hab;injection this
  subst e;obtain rfl:=hx.inj hy;exact Qa (wpAny_rule (Qf (by simpa using h)))
 rw[Qr hab]
 exact Qa (wpAny_richCompare_same_room (op:=.Eq) hx.typeIs hy.typeIs F.slot_tuple_eq
  (Q5 F.slot_tuple_eq hx.typeIs F.entry_tuple_eq (pw ap hu hx hy ⟨_,rfl,(λe=>nomatch e),wpAny_truthy_bool h⟩) (F.args_tuple_eq_2 _ _)) (Nat.lt_of_succ_lt hu))
theorem pj {ks:List K} {m:Nat} (hk:IsTupleKey knd s.heap ks a) (h:Q true s):wpAny (model prog w) A (eqIsQuiet (m+1) (.ref a)) Q E s:=by
 have hT:=hk.typeIs;obtain⟨o,items,n,ho,_,hd,hi⟩:=hk;unfold eqIsQuiet;refine Qa (wpAny_specialOf hT F.slot_tuple_eq.lookup ?_);show wpAny _ _ (isInstance (.ref a) (.type "tuple") >>= _) _ _ s;refine Qa (wpAny_isInstance hT isSubtype_tuple_tuple ?_);simp only[XU,QE,Xs];refine Qa (Xx ho hd ?_);refine Qa ?_;show wpAny _ _ (forIn items _ _) _ _ s;rw[<-Array.forIn_toList];refine wpAny_forIn_list _ (λrest r s'=>r.1=none/\s'=s/\∀v∈rest,carriedByValue v=true) _ ?_ ?_ _ _ ⟨rfl,rfl,hi.byValue⟩
 ·rintro v rest r s' ⟨hr,rfl,hall⟩;rw[eqIsQuiet_byValue _ (hall v Xl)];refine Qa (Qf ?_);simp only[XU,QE,Xs];exact Qf ⟨rfl,rfl,λu hu'=>hall u (Qo _ hu')⟩
 rintro⟨r1,r2⟩ s' ⟨hr,rfl,_⟩;simp only at hr;subst hr;exact Qf h
theorem sI {k:K ⊕ List K} {m:Nat} (hk:It knd s.heap k v) (h:Q true s):wpAny (model prog w) A (eqIsQuiet (m+1) v) Q E s:=by
 cases k with
 | inl k=>rw[eqIsQuiet_byValue _ (knd.byValue _ _ hk)];exact Qf h
 | inr ks=>obtain⟨a,rfl,hk⟩:=hk;exact pj hk h
theorem t_quiet (hk:IsT knd s.heap ks a) (h:Q true s):wpAny (model prog w) A (eqIsQuiet 8 (.ref a)) Q E s:=by
 have hT:=hk.typeIs;obtain⟨o,items,n,ho,_,hd,hi⟩:=hk;unfold eqIsQuiet;refine Qa (wpAny_specialOf hT F.slot_tuple_eq.lookup ?_);show wpAny _ _ (isInstance (.ref a) (.type "tuple") >>= _) _ _ s;refine Qa (wpAny_isInstance hT isSubtype_tuple_tuple ?_);simp only[XU,QE,Xs];refine Qa (Xx ho hd ?_);refine Qa ?_;show wpAny _ _ (forIn items _ _) _ _ s;rw[<-Array.forIn_toList];refine wpAny_forIn_list _ (λrest r s'=>r.1=none/\s'=s/\∃ks,Its knd s.heap ks rest) _ ?_ ?_ _ _ ⟨rfl,rfl,_,hi⟩
 ·rintro v rest r s' ⟨hr,rfl,ks',hall⟩
  cases hall with
  | cons h1 h2 =>
  refine Qa (sI h1 ?_);simp only[XU,QE,Xs];exact Qf ⟨rfl,rfl,_,h2⟩
 rintro⟨r1,r2⟩ s' ⟨hr,rfl,_⟩;simp only at hr;subst hr;exact Qf h
noncomputable def kind (knd:KeyKind prog w K) (ap:Apt knd):HeapKind prog w (List (K ⊕ List K)) where
 is:=IsT knd
 hash:=wH knd
 draws:=λks=>mY ks+1
 room:=λA=>A.units+1<cLine
 inj:=λhx hy=>hx.inj hy
 keeps:=λx ho hd hs=>x.keeps ho hd hs
 pyHash:=λhu hk h=>vN hu hk h
 eqBool:=λhu hx hy h=>t_eq ap hu hx hy h
 quiet:=λhk h=>t_quiet hk h
end
end TK
-- CHANGE: your row's module here,as the last of these rows
namespace L2
open PySem PySem.Spec PyProof.Rows
abbrev Key:=Sum Int Str
def dh:Key->Value->Bool
 | .inl k,v=>Value.isInt k v
 | .inr x,v=>Value.isStrOf x v
def yt (w:World):Key->Int
 | .inl k=>hashInt k
 | .inr x=>hashStr w x
theorem aE:∀{k:Key} {v:Value},dh k v=true->(∃i t,k=Sum.inl i/\v=Value.int i t)\/(∃x t,k=Sum.inr x/\v=Value.str x t)
 | .inl i,v,h=>by
  obtain⟨t,e⟩:=Value.isInt_shape (k:=i) (v:=v) h;exact .inl ⟨i,t,rfl,e⟩
 | .inr x,v,h=>by
  obtain⟨t,e⟩:=Value.isStrOf_shape (x:=x) (v:=v) h;exact .inr ⟨x,t,rfl,e⟩
theorem pU (i:Int) (t:Tok):dh (.inl i) (.int i t)=true:=by simp[dh,Value.isInt]
theorem pT (x:Str) (t:Tok):dh (.inr x) (.str x t)=true:=by simp[dh,Value.isStrOf]
theorem sy (a b:Int):decide ((Sum.inl a:Key)=Sum.inl b)=(a==b):=by
 by_cases e:a=b
 ·subst e;simp
 have h:¬(Sum.inl a:Key)=Sum.inl b:=λq=>e (Sum.inl.inj q);rw[Qv h];exact(beq_eq_false_iff_ne.mpr e).symm
theorem sx (a b:Str):decide ((Sum.inr a:Key)=Sum.inr b)=decide (a=b):=by
 by_cases e:a=b
 ·subst e;simp
 have h:¬(Sum.inr a:Key)=Sum.inr b:=λq=>e (Sum.inr.inj q);rw[Qv h,Qv e]
theorem wz (a:Int) (b:Str):decide ((Sum.inl a:Key)=Sum.inr b)=false:=Qv (λq=>nomatch q)
theorem wx (a:Str) (b:Int):decide ((Sum.inr a:Key)=Sum.inl b)=false:=Qv (λq=>nomatch q)
noncomputable def au (prog:Program) (w:World):PySem.KeyKind prog w Key where
 is:=dh
 hash:=yt w
 inj:=λv a b ha hb=>by
  rcases aE ha with⟨i,t,rfl,rfl⟩|⟨x,t,rfl,rfl⟩
  ·rcases aE hb with⟨j,u,rfl,e⟩|⟨y,u,rfl,e⟩
   ·injection e with e1 _;rw[e1]
   exact nomatch e
  rcases aE hb with⟨j,u,rfl,e⟩|⟨y,u,rfl,e⟩
  ·exact nomatch e
  injection e with e1 _;rw[e1]
 byValue:=λk v h=>by
  rcases aE h with⟨i,t,rfl,rfl⟩|⟨x,t,rfl,rfl⟩ <;> rfl
 pyHash:=λhv h=>by
  rcases aE hv with⟨i,t,rfl,rfl⟩|⟨x,t,rfl,rfl⟩
  ·exact wpAny_pyHash_int h
  exact wpAny_pyHash_str h
 eqBool:=λhu hv h=>by
  rcases aE hu with⟨i,t,rfl,rfl⟩|⟨x,t,rfl,rfl⟩
  ·rcases aE hv with⟨j,u,rfl,rfl⟩|⟨y,u,rfl,rfl⟩
   ·rw[sy]at h;exact wpAny_eqBool_int h
   rw[wz]at h;exact SeqAt.EqAt.int_str i t y u _ _ _ _ h
  rcases aE hv with⟨j,u,rfl,rfl⟩|⟨y,u,rfl,rfl⟩
  ·rw[wx]at h;exact SeqAt.EqAt.str_int x t j u _ _ _ _ h
  rw[sx]at h;exact wpAny_eqBool_str h
 «strs»:=λk x t v h=>by
  rcases aE h with⟨i,u,rfl,e⟩|⟨y,u,rfl,e⟩
  ·exact nomatch e
  injection e with e1 _;subst e1;cases v <;> rfl
theorem k9 (prog:Program) (w:World) (i:Int) (t:Tok):(au prog w).is (.inl i) (.int i t)=true:=pU i t
theorem f7 (prog:Program) (w:World) (x:Str) (t:Tok):(au prog w).is (.inr x) (.str x t)=true:=pT x t
theorem jD (prog:Program) (w:World):TK.Apt (au prog w):=λhu hk t h=>by
 rcases aE hk with⟨i,u,rfl,rfl⟩|⟨x,u,rfl,rfl⟩
 ·exact⟨SeqAt.EqAt.int_tuple _ _ t hu _ _ _ _ h,SeqAt.EqAt.tuple_int _ _ t hu _ _ _ _ h⟩
 exact⟨SeqAt.EqAt.str_tuple _ _ t hu _ _ _ _ h,SeqAt.EqAt.tuple_str _ _ t hu _ _ _ _ h⟩
abbrev av:=List (Key ⊕ List Key)
abbrev bg (P:Program) (w:World):HeapKind P w av:=TK.kind (au P w) (jD P w)
variable {A:Around}
theorem fc {P:Program} {w:World} (hu:A.units+8<cLine):(bg P w).room A.in1:=show A.units+1+1<cLine by omega
inductive V where
 | non|bl (b:Bool)|int (i:Int)|str (x:Str)|byt (b:Array UInt8)|flt (b:UInt64)|ref (a:Addr)|ty (n:String)
 deriving DecidableEq
noncomputable def aI:V->Value->Prop
 | .non,u=>u=Value.none
 | .bl b,u=>u=Value.bool b
 | .int i,u=>∃t,u=Value.int i t
 | .str x,u=>∃t,u=Value.str x t
 | .byt b,u=>∃t,u=Value.bytes b t
 | .flt b,u=>∃t,u=Value.float b t
 | .ref a,u=>u=Value.ref a
 | .ty n,u=>u=Value.type n
abbrev aO:List V->List Value->Prop:=Paired aI
theorem aO.length {xs:List V} {us:List Value} (r:aO xs us):xs.length=us.length:=Xi r
theorem aO.get:∀{xs:List V} {us:List Value} {i:Nat} {x:V},aO xs us->xs[i]?=some x->∃u,us[i]?=some u/\aI x u
 | _,_,_,_,.nil,e=>by simp at e
 | _,_,0,_,.cons r _,e=>by simp at e;subst e;exact⟨_,rfl,r⟩
 | _,_,i+1,x,.cons _ t,e=>by
  obtain⟨u,h1,h2⟩:=aO.get (i:=i) (x:=x) t (by simpa using e);exact⟨u,by simpa using h1,h2⟩
variable {u cd dV doc pm cdv ct oc:Value}
theorem aO.set {x:V} (r:aI x u):∀{xs:List V} {us:List Value} (i:Nat),aO xs us->aO (xs.set i x) (us.set i u)
 | _,_,_,.nil=>.nil
 | _,_,0,.cons _ t=>.cons r t
 | _,_,i+1,.cons q t=>.cons q (aO.set r i t)
theorem aO.append:∀{xs ys:List V} {us ws:List Value},aO xs us->aO ys ws->aO (xs++ys) (us++ws)
 | _,_,_,_,.nil,s=>s
 | _,_,_,_,.cons r t,s=>.cons r (aO.append t s)
theorem aO.take:∀{xs:List V} {us:List Value} (n:Nat),aO xs us->aO (xs.take n) (us.take n)
 | _,_,0,_=>.nil
 | _,_,_+1,.nil=>.nil
 | _,_,n+1,.cons r t=>.cons r (aO.take n t)
theorem aO.drop:∀{xs:List V} {us:List Value} (n:Nat),aO xs us->aO (xs.drop n) (us.drop n)
 | _,_,0,r=>r
 | _,_,_+1,.nil=>.nil
 | _,_,n+1,.cons _ t=>aO.drop n t
theorem aO.none_of:∀{xs:List V} {us:List Value} {i:Nat},aO xs us->xs[i]?=none->us[i]?=none:=λ{xs us i} r e=>by
 have h1:=r.length;have h2:xs.length<=i:=XJ.mp e;exact XJ.mpr (by omega)
def fH:Option V->Option Value->Prop
 | some v,some u=>aI v u
 | none,none=>True
 | _,_=>False
def KV {κ:Type}:List (κ × V)->List (κ × Value)->Prop:=Paired λ(p:κ × V) (q:κ × Value)=>p.1=q.1/\aI p.2 q.2
def kV:Key->V
 | .inl i=>.int i
 | .inr x=>.str x
inductive HO where
 /-- a list -/
 | lst (xs:List V)
 /-- a tuple (never changes) -/
 | tup (xs:List V)
 /-- a dict whose keys are ints and texts;one whose keys are tuples of ints and texts (the empty one is both) -/
 | dK (kvs:List (Key × V))|dT (kvs:List (av × V))
 /-- a set of ints: its members,its size -/
 | set (S:Int->Bool) (n:Nat)
 /-- an instance of the class at C,its dict at dx,its attributes -/
 | ins (C dx:Addr) (fs:List (Str × V))
 /-- the dict of the instance at x -/
 | own (x:Addr)
 /-- the dict of an exception -/
 | xd (fs:List (Str × V))
 /-- a bound method,f of x -/
 | met (f x:Addr)
 /-- a range object lo,lo+1,.. below hi -/
 | rng (lo hi:Int)
 /-- a thing that is known to the object (the script;a dict while a loop u4 it): read,never written while it is so -/
 | frz (o:Obj) (u:HO)
 /-- a code object's table -/
 | tbl (ps:Array Value)
 /-- any other thing,by what is true of its one object (a def of one's own: SetO a S n:=HO.ext λh=>..) -/
 | ext (φ:Heap->Prop)
abbrev Hp:=Addr->Option HO
def upd (H:Hp) (a:Addr) (o:HO):Hp:=λb=>if b=a then some o else H b
variable {o:HO} {a b it C f:Addr} {H H':Hp}
theorem ag:upd H a o a=some o:=by unfold upd;rw[Qt rfl]
theorem ah (h:b≠a):upd H a o b=H b:=by unfold upd;rw[Qr h]
theorem nG {u:HO}:upd (upd H a o) a u=upd H a u:=by
 funext b;unfold upd;split <;> rfl
theorem vq {u:HO} (h:H a=some o) (h':H b=some u) (d:o≠u):a≠b:=by
 intro e;subst e;rw[h]at h';exact d (QJ h')
theorem am (h:H a=some o) (h':H b=none):a≠b:=by
 intro e;subst e;rw[h]at h';cases h'
def KIt (H:Hp):Key ⊕ List Key->V->Prop
 | .inl k,v=>v=kV k
 | .inr ks,v=>∃c,v=.ref c/\H c=some (.tup (ks.map kV))
def bK (H:Hp) (k:av) (b:Addr):Prop:=∃vs,H b=some (.tup vs)/\Paired (KIt H) k vs
theorem KIt.keeps {k:Key ⊕ List Key} {v:V} (ht:∀b xs,H b=some (.tup xs)->H' b=some (.tup xs)) (h:KIt H k v):KIt H' k v:=by
 cases k with
 | inl k=>exact h
 | inr ks=>obtain⟨c,e,h⟩:=h;exact⟨c,e,ht _ _ h⟩
theorem Paired.mapT {α β:Type} {F G:α->β->Prop}:∀{l₁:List α} {l₂:List β},Paired F l₁ l₂->(∀a b,F a b->G a b)->Paired G l₁ l₂
 | _,_,.nil,_=>.nil
 | _,_,.cons r t,f=>.cons (f _ _ r) (Paired.mapT t f)
theorem bK.keeps {k:av} (h:bK H k b) (ht:∀b xs,H b=some (.tup xs)->H' b=some (.tup xs)):bK H' k b:=by
 obtain⟨vs,h1,h2⟩:=h;exact⟨vs,ht _ _ h1,Paired.mapT h2 λ_ _ z=>z.keeps ht⟩
section
variable (P:Program) (w:World)
noncomputable def bo (H:Hp) (h:Heap) (a:Addr):HO->Prop
 | .lst xs=>xs.length<=sizeLine/\∃(its:List Value) (n:Nat),aO xs its/\h.get? a=some { cls:=.type "list", data:=.seq its.toArray n }
 | .tup xs=>xs.length<=sizeLine/\∃its:List Value,aO xs its/\IsTup h a its.toArray
 | .dK kvs=>kvs.length<=sizeLine/\(a==sysModules)=false/\∃vs,KV kvs vs/\h.DictOf (au P w) a vs
 | .dT kvs=>kvs.length<=sizeLine/\(a==sysModules)=false/\∃xs:List (av × Addr × Value),
   Paired (λ(p:av × V) (q:av × Addr × Value)=>p.1=q.1/\bK H p.1 q.2.1/\aI p.2 q.2.2) kvs xs /\
   ∃o es ep,h.get? a=some o/\o.ExactDict/\o.data=.dict es ep/\es.toList=xs.map (entryOfKey (bg P w))/\(xs.map (·.1)).Nodup
 | .set S n=>h.SetOf (intKind P w) a S n
 | .ins C dx fs=>H dx=some (.own a)/\fs.length<=1000/\dx≠a/\h.get? a=some (PySem.W.instObj C dx) /\
   ∃mA,h.Ns1 dx mA/\(∀f,fH (fs.lookup f) (mA f))/\PySem.Within mA (fs.map (·.1))
 | .own _=>∃o,h.get? a=some o
 | .xd fs=>∃mA,h.Ns1 a mA/\∀f,fH (fs.lookup f) (mA f)
 | .rng lo hi=>∃t u v,h.get? a=some { cls:=.type "range", data:=.fields #[.int lo t,.int hi u,.int 1 v] }
 | .frz o u=>h.get? a=some o/\bo H h a u
 | .tbl ps=>h.get? a=some { cls:=.none,data:=.fields ps }
 | .met f x=>h.get? a=some (PySem.W.methodObj (.ref f) (.ref x))
 | .ext φ=>φ h/\(∃o,h.get? a=some o)/\∀h1 h2:Heap,φ h1->(∀o,h1.get? a=some o->h2.get? a=some o)->φ h2
def HOk (H:Hp) (h:Heap):Prop:=∀a o,H a=some o->bo P w H h a o
end
section
variable {P:Program} {w:World} {H H':Hp} {h h':Heap} {a:Addr} {o:HO}
theorem bo.lt (x:bo P w H h a o):a<h.objs.size:=by
 cases o with
 | lst xs=>obtain⟨_,_,_,_,e⟩:=x;exact Qp e
 | tup xs=>obtain⟨_,_,_,p⟩:=x;exact p.lt
 | dK kvs=>obtain⟨_,_,_,_,o,_,_,e,_⟩:=x;exact Qp e
 | dT kvs=>obtain⟨_,_,_,_,o,_,_,e,_⟩:=x;exact Qp e
 | set S n=>obtain⟨o,_,_,_,e,_⟩:=x;exact Qp e
 | ins C dx fs=>obtain⟨_,_,_,e,_⟩:=x;exact Qp e
 | own y=>obtain⟨_,e⟩:=x;exact Qp e
 | xd fs=>obtain⟨_,⟨_,_,_,e,_⟩,_⟩:=x;exact Qp e
 | rng lo hi=>obtain⟨_,_,_,e⟩:=x;exact Qp e
 | frz ob u=>obtain⟨e,_⟩:=x;exact Qp e
 | tbl ps=>exact Qp (show h.get? a=some _ from x)
 | met f y=>exact Qp (show h.get? a=some _ from x)
 | ext φ=>obtain⟨_,⟨_,e⟩,_⟩:=x;exact Qp e
theorem Paired.mapP {α β:Type} {F G:α->β->Prop}:∀{l₁:List α} {l₂:List β},Paired F l₁ l₂->(∀a b,F a b->G a b)->Paired G l₁ l₂
 | _,_,.nil,_=>.nil
 | _,_,.cons r t,f=>.cons (f _ _ r) (Paired.mapP t f)
theorem bo.stay (x:bo P w H h a o) (k:∀b u,(b=a\/H b=some (.own a))->h.get? b=some u->h'.get? b=some u)
  (ho:∀b,H b=some (.own a)->H' b=some (.own a)) (ht:∀b xs,H b=some (.tup xs)->H' b=some (.tup xs)):bo P w H' h' a o:=by
 induction o with
 | lst xs=>obtain⟨z,its,n,r,e⟩:=x;exact⟨z,its,n,r,k _ _ (.inl rfl) e⟩
 | tup xs=>obtain⟨z,its,r,ob,e,c⟩:=x;exact⟨z,its,r,ob,k _ _ (.inl rfl) e,c⟩
 | dK kvs=>obtain⟨z,y,vs,r,ob,es,ep,e,c⟩:=x;exact⟨z,y,vs,r,ob,es,ep,k _ _ (.inl rfl) e,c⟩
 | dT kvs =>
  obtain⟨z,y,xs,r,ob,es,ep,e,c⟩:=x;exact⟨z,y,xs,Paired.mapP r λp q z=>⟨z.1,z.2.1.keeps ht,z.2.2⟩,ob,es,ep,k _ _ (.inl rfl) e,c⟩
 | set S n=>obtain⟨ob,es,ep,t,e,c⟩:=x;exact⟨ob,es,ep,t,k _ _ (.inl rfl) e,c⟩
 | ins C dx fs =>
  obtain⟨d,z,ne,e,mA,⟨od,es,ep,e2,c⟩,r⟩:=x;exact⟨ho _ d,z,ne,k _ _ (.inl rfl) e,mA,⟨od,es,ep,k _ _ (.inr d) e2,c⟩,r⟩
 | own y=>obtain⟨ob,e⟩:=x;exact⟨ob,k _ _ (.inl rfl) e⟩
 | xd fs=>obtain⟨mA,⟨od,es,ep,e,c⟩,r⟩:=x;exact⟨mA,⟨od,es,ep,k _ _ (.inl rfl) e,c⟩,r⟩
 | rng lo hi=>obtain⟨t,u,v,e⟩:=x;exact⟨t,u,v,k _ _ (.inl rfl) e⟩
 | frz ob u ih=>obtain⟨e,q⟩:=x;exact⟨k _ _ (.inl rfl) e,ih q⟩
 | tbl ps =>
  have e:h.get? a=some { cls:=.none,data:=.fields ps }:=x;show h'.get? a=some { cls:=.none,data:=.fields ps };exact k a _ (.inl rfl) e
 | met f y =>
  have e:h.get? a=some (PySem.W.methodObj (.ref f) (.ref y)):=x;show h'.get? a=some (PySem.W.methodObj (.ref f) (.ref y));exact k a _ (.inl rfl) e
 | ext φ=>obtain⟨p,⟨o,e⟩,st⟩:=x;exact⟨st _ _ p λo q=>k _ _ (.inl rfl) q,⟨o,k _ _ (.inl rfl) e⟩,st⟩
theorem HOk.lt (x:HOk P w H h) (e:H a=some o):a<h.objs.size:=(x a o e).lt
theorem HOk.fresh (x:HOk P w H h) (e:h.objs.size<=a):H a=none:=by
 cases q:H a with
 | none=>rfl
 | some u=>exact absurd (QL (x.lt q) e) (XV _)
theorem HOk.kept (x:HOk P w H h) (k:∀b u,h.get? b=some u->h'.get? b=some u):HOk P w H h':=λa o e =>
 (x a o e).stay (λb u _ q=>k b u q) (λ_ q=>q) λ_ _ q=>q
theorem HOk.laid (x:HOk P w H h) (k:∀b u,h.get? b=some u->h'.get? b=some u) (hp:h.objs.size<=a) (new:bo P w (upd H a o) h' a o):HOk P w (upd H a o) h':=λb u e=>by
 have hn:=x.fresh hp;by_cases hb:b=a
 ·subst hb;rw[ag]at e;cases e;exact new
 rw[ah hb]at e;exact(x b u e).stay (λc v _ q=>k c v q) (λc q=>by rw[ah (am q hn)];exact q) λc xs q=>by rw[ah (am q hn)];exact q
end
def Rd (H:Hp) (a:Addr) (u:HO):Prop:=H a=some u\/∃o,H a=some (.frz o u)
theorem Rd.ok {P:Program} {w:World} {h:Heap} {u:HO} (r:Rd H a u) (x:HOk P w H h):bo P w H h a u:=by
 rcases r with r|⟨o,r⟩
 ·exact x a u r
 obtain⟨_,q⟩:=x a _ r;exact q
def Mut:Option HO->Prop
 | some (.lst _)=>True
 | some (.dK _)=>True
 | some (.dT _)=>True
 | some (.set _ _)=>True
 | some (.ins _ _ _)=>True
 | some (.ext _)=>True
 | _=>False
section
variable {P:Program} {w:World} {H:Hp} {h h':Heap} {x e:Addr} {o':HO}
theorem HOk.write (ok:HOk P w H h) (mu:Mut (H x)) (he:e=x\/H e=some (.own x)) (k:∀b u,b≠e->h.get? b=some u->h'.get? b=some u) (heo:∃u,h'.get? e=some u)
  (new:bo P w (upd H x o') h' x o'):HOk P w (upd H x o') h':=λb u q=>by
 have nown:∀c y,H c=some (.own y)->c≠x:=λc y r z=>by subst z;rw[r]at mu;exact mu
 have ntup:∀c xs,H c=some (.tup xs)->c≠x:=λc xs r z=>by subst z;rw[r]at mu;exact mu
 by_cases hb:b=x
 ·subst hb;rw[ag]at q;cases q;exact new
 rw[ah hb]at q;by_cases hbe:b=e
 ·have q':H b=some (.own x):=by
   rcases he with z|z
   ·exact absurd (hbe.trans z) hb
   rw[hbe];exact z
  rw[q]at q';cases q';obtain⟨v,hv⟩:=heo;exact⟨v,by rw[hbe];exact hv⟩
 refine(ok b u q).stay (λc v hc r=>k c v ?_ r) (λc r=>by rw[ah (nown c b r)];exact r) λc xs r=>by rw[ah (ntup c xs r)];exact r
 rcases hc with rfl|hc
 ·exact hbe
 rintro rfl;rcases he with z|z
 ·exact nown c b hc z
 rw[hc]at z;cases z;exact hb rfl
end
structure Un (fs ex:A3) (H H':Hp) (h h':Heap):Prop where
 keep:∀b o,h.get? b=some o->H b=none->b∉fs->b∉ex->h'.get? b=some o
 slot:∀b o,h.get? b=some o->H b=none->b∈fs->b∉ex->∃sl,h'.get? b=some { o with slots:=sl }
 free:∀b o,h.get? b=some o->H b=none->b∉ex->H' b=none
 there:∀b o,h.get? b=some o->b∉ex->∃o',h'.get? b=some o'
 tups:∀b xs,H b=some (.tup xs)->H' b=some (.tup xs)
 frzs:∀b o u,H b=some (.frz o u)->H' b=some (.frz o u)
 tbls:∀b ps,H b=some (.tbl ps)->∃more,H' b=some (.tbl (ps++more))
section
variable {fs fs' ex ex':A3} {H H1 H2:Hp} {h h1 h2 h':Heap} {a x e:Addr} {o:HO}
theorem Un.any (u:Un fs ex H H1 h h1) {b:Addr} {ob:Obj} (q:h.get? b=some ob) (n:H b=none) (hx:b∉ex):∃sl,h1.get? b=some { ob with slots:=sl }:=by
 by_cases hb:b∈fs
 ·exact u.slot b ob q n hb hx
 exact⟨ob.slots,u.keep b ob q n hb hx⟩
theorem Un.kept (k:∀b u,h.get? b=some u->h'.get? b=some u):Un fs ex H H h h' :=
 ⟨λb ob q _ _ _=>k b ob q,λb ob q _ _ _=>⟨ob.slots,k b ob q⟩,λ_ _ _ n _=>n,λb ob q _=>⟨ob,k b ob q⟩,λ_ _ q=>q,λ_ _ _ q=>q,λ_ ps q=>⟨#[],by rw[q];simp⟩⟩
theorem Un.refl:Un fs ex H H h h:=Un.kept λ_ _ q=>q
theorem Un.laid (k:∀b u,h.get? b=some u->h'.get? b=some u) (hp:h.objs.size<=a) (hn:H a=none):Un fs ex H (upd H a o) h h' where
 keep:=λb u q _ _ _=>k b u q
 slot:=λb u q _ _ _=>⟨u.slots,k b u q⟩
 free:=λb u q n _=>by rw[ah (QC (QL (Qp q) hp))];exact n
 there:=λb u q _=>⟨u,k b u q⟩
 tups:=λb xs q=>by rw[ah (am q hn)];exact q
 frzs:=λb u xs q=>by rw[ah (am q hn)];exact q
 tbls:=λb ps q=>⟨#[],by rw[ah (am q hn),q];simp⟩
theorem Un.write (mu:Mut (H x)) (he:e=x\/H e=some (.own x)) (k:∀b u,b≠e->h.get? b=some u->h'.get? b=some u) (heo:∃u,h'.get? e=some u):Un fs ex H (upd H x o) h h':=by
 have hx:∀b,H b=none->b≠x:=λb n z=>by subst z;rw[n]at mu;exact mu
 have hb:∀b,H b=none->b≠e:=λb n z=>by
  subst z;rcases he with r|r
  ·exact hx b n r
  rw[n]at r;cases r
 have hm:∀b u,H b=some u->¬Mut (some u)->b≠x:=λb u q nm z=>by subst z;rw[q]at mu;exact nm mu
 refine⟨λb u q n _ _=>k b u (hb b n) q,λb u q n _ _=>⟨u.slots,k b u (hb b n) q⟩,λb u q n _=>by rw[ah (hx b n)];exact n,λb u q _=>?_,
  λb xs q=>by rw[ah (hm b _ q λz=>z)];exact q,λb u xs q=>by rw[ah (hm b _ q λz=>z)];exact q,λb ps q=>⟨#[],by rw[ah (hm b _ q λz=>z),q];simp⟩⟩
 by_cases hbe:b=e
 ·subst hbe;exact heo
 exact⟨u,k b u hbe q⟩
end
def trk (h:Heap) (H:Hp):A3:=(List.range h.objs.size).filter λa=>(H a).isSome
def iu (h:Heap) (H:Hp):Heap:=PySem.W.hideAll h (trk h H)
theorem pX (h:Heap) (H:Hp):(iu h H).objs.size=h.objs.size:=PySem.W.hideAll_size _ _
theorem sO {h:Heap} {o:Obj} (e:h.get? b=some o) (n:H b=none):(iu h H).get? b=some o :=
 PySem.W.hideAll_get _ e λhm=>by
  have q:(H b).isSome=true:=(QR.mp hm).2;rw[n]at q;simp at q
theorem uh {h:Heap} {o:Obj} (e:(iu h H).get? b=some o):h.get? b=some o/\H b=none:=by
 have e':h.get? b=some o:=PySem.W.of_hideAll (trk h H) e;refine⟨e',?_⟩
 cases q:H b with
 | none=>rfl
 | some x =>
 have hm:b∈trk h H:=QR.mpr ⟨Xm.mpr (Qp e'),by simp[q]⟩;have z:(iu h H).get? b=none:=PySem.W.hideAll_none (trk h H) hm;rw[z]at e;cases e
structure Mod (K:PySem.W.Frag) (mg:A2) (base:Heap):Prop where
 kin:K.In base
 glob:base.Ns mainGlobals mg
 blt:∃mb,base.Ns builtinsNs mb/\∀x:Str,x ≠ "__name__" -> mb x=bootBuiltins x
 nolimit:base.NoLimit
/-- the context: a def's body (or a comprehension's block) running. base: fixed through the whole law;s₀,H₀: the dA;outer: the frames whose slots others may change (a def's callers);stack: all frames that run;
  ex: iterators that were made ahead of the dA and are walked here (a comprehension's);fn: the names whose cells were made at the dA (a def: all;a comprehension's block: its own);calm: not within an except suite;pn: pins that every state bears;xe: what is wanted of an exception that leaves the code -/
structure Cx where
 prog:Program
 w:World
 K:PySem.W.Frag
 mg:A2
 base:Heap
 A:Around
 N:List Str
 s₀:Shared
 H₀:Hp
 env:Env
 outer:List Env
 stack:List Env
 ex:A3
 fn:Str->Bool
 calm:Bool
 pn:A1
 xe:A0
def frs (l:List Env):A3:=l.filterMap (·.frame)
abbrev Cx.fs (X:Cx):A3:=frs X.outer
def Vis (sc:Scope) (x:Str):Prop:=sc.names.lookup x=some .local\/sc.names.lookup x=some .cell\/sc.names.lookup x=some .free
def Loc (sc:Scope) (x:Str):Prop:=sc.names.lookup x=some .local\/sc.names.lookup x=some .cell
def yC (env:Env) (h:Heap) (m:A2) (x:Str) (u:Value):Prop :=
 (env.kindOf x=some .local/\m x=some u)\/((env.kindOf x=some .cell\/env.kindOf x=some .free)/\∃c,env.cells.lookup x=some c/\h.IsCell c (some u))
structure Cx.Ok (X:Cx):Prop where
 mod:Mod X.K X.mg X.base
 kind:X.env.scope.kind=.function
 glob:X.env.globals=mainGlobals
 blt:X.env.builtins=builtinsNs
 above:X.s₀.heap.objs.size<=X.env.locals
 inj:∀x y c,X.env.cells.lookup x=some c->X.env.cells.lookup y=some c->x=y
 has:∀x,(X.env.kindOf x=some .cell\/X.env.kindOf x=some .free)->∃c,X.env.cells.lookup x=some c
 cab:∀x c,X.fn x=true->X.env.cells.lookup x=some c->X.s₀.heap.objs.size<=c
 hd:X.calm=true->X.A.handled=none
 frames:X.A.frames=some X.stack
 stk:X.stack=X.outer\/(X.stack=X.env::X.outer/\X.env.frame=some X.env.locals)
 exf:∀b∈X.ex,b≠X.env.locals/\∀x c,X.env.cells.lookup x=some c->c≠b
 bs:∀b o,X.base.get? b=some o->X.s₀.heap.get? b=some o/\X.H₀ b=none
 bsz:X.base.objs.size<=X.s₀.heap.objs.size
 noex:∀b o,X.base.get? b=some o->b∉X.ex
 exfs:∀b∈X.ex,b∉X.fs
 funs:X.s₀.heap.FunFrames X.base X.outer
 frf:∀b∈X.fs,X.H₀ b=none
structure Inv (X:Cx) (pins:A1) (U:List (Option V)) (H:Hp) (s:Shared):Prop where
 ok:X.Ok
 os:s.os=X.s₀.os
 bare:AllBare s.gens
 base:Un X.fs X.ex X.H₀ H X.s₀.heap s.heap
 loc:∃m,s.heap.Ns X.env.locals m/\∀(i:Nat) (x:Str) (v:V),X.N[i]?=some x->U[i]?=some (some v)->Vis X.env.scope x->∃u,aI v u/\yC X.env s.heap m x u
 cell:∀x c,X.env.cells.lookup x=some c->∃v,s.heap.IsCell c v
 free:H X.env.locals=none
 freeC:∀x c,X.env.cells.lookup x=some c->H c=none
 pin:∀p∈X.pn++pins,s.heap.get? p.1=some p.2/\H p.1=none/\p.1≠X.env.locals/\p.1∉X.fs/\∀v,p.2.data≠.cell v
 hok:HOk X.prog X.w H s.heap
 len:U.length=X.N.length
section
variable {X:Cx} {pins:A1} {U:List (Option V)} {H H':Hp} {s:Shared} {h':Heap}
theorem Cx.Ok.nofr (ok:X.Ok) {b:Addr} {o:Obj} (e:X.base.get? b=some o):b∉X.fs:=λhb=>by
 have:=(ok.funs.mem hb).1;rw[e]at this;cases this
theorem Inv.bs (I:Inv X pins U H s):∀b o,X.base.get? b=some o->s.heap.get? b=some o/\H b=none:=λb o e =>
 ⟨I.base.keep b o (I.ok.bs b o e).1 (I.ok.bs b o e).2 (I.ok.nofr e) (I.ok.noex b o e),I.base.free b o (I.ok.bs b o e).1 (I.ok.bs b o e).2 (I.ok.noex b o e)⟩
theorem Inv.bk (I:Inv X pins U H s):∀b o,X.base.get? b=some o->s.heap.get? b=some o:=λb o e=>(I.bs b o e).1
theorem Inv.mod (I:Inv X pins U H s):Mod X.K X.mg X.base:=I.ok.mod
theorem Inv.kIn (I:Inv X pins U H s):X.K.In s.heap:=I.ok.mod.kin.keeps I.bk
theorem Inv.lt (I:Inv X pins U H s):X.env.locals<s.heap.objs.size:=let ⟨_,hn,_⟩:=I.loc;hn.lt
theorem Inv.sz (I:Inv X pins U H s):X.s₀.heap.objs.size<=s.heap.objs.size:=QG I.ok.above (Nat.le_of_lt I.lt)
theorem Inv.nofs (I:Inv X pins U H s) {a:Addr} (h:s.heap.objs.size<=a):a∉X.fs:=λhb=>by
 obtain⟨_,o,ho,_⟩:=I.ok.funs.mem hb;exact absurd (QL (Qp ho) (QG I.sz h)) (XV _)
theorem Inv.cne (I:Inv X pins U H s):∀x c,X.env.cells.lookup x=some c->c≠X.env.locals:=λx c e z=>by
 obtain⟨v,o,ho,hd⟩:=I.cell x c e;obtain⟨m,⟨o',es,ep,ho',hd',_⟩,_⟩:=I.loc;rw[z,ho']at ho;cases ho;rw[hd']at hd;cases hd
theorem Inv.funs (I:Inv X pins U H s):s.heap.FunFrames X.base X.outer:=by
 have all:∀(l:List Env),(∀b∈frs l,b∈X.fs)->X.s₀.heap.FunFrames X.base l->s.heap.FunFrames X.base l:=by
  intro l
  induction l with
  | nil=>intro _ _;trivial
  | cons env r ih =>
  intro hs hl;obtain⟨hk,⟨L,o,hf,hn,ho,hd⟩,hr⟩:=hl;have hL:L∈X.fs:=hs L (by unfold frs;rw[List.filterMap_cons,hf];exact Xl);obtain⟨sl,e⟩:=I.base.slot L o ho (I.ok.frf L hL) hL λz=>I.ok.exfs L z hL;exact⟨hk,⟨L,_,hf,hn,e,hd⟩,ih (λb hb=>hs b (by unfold frs;rw[List.filterMap_cons,hf];exact Qo _ hb)) hr⟩
 exact all X.outer (λ_ hb=>hb) I.ok.funs
theorem Inv.stack (I:Inv X pins U H s):s.heap.FunFrames X.base X.stack:=by
 rcases I.ok.stk with e|⟨e,hf⟩
 ·rw[e];exact I.funs
 rw[e];obtain⟨m,hn,_⟩:=I.loc;refine .cons (by rw[I.ok.kind];decide) hf hn ?_ I.funs;exact Heap.get?_none_of_le (QG I.ok.bsz I.ok.above)
theorem Inv.stkSub (I:Inv X pins U H s):∀b∈frs X.stack,b∈X.env.locals::X.fs:=λb hb=>by
 rcases I.ok.stk with e|⟨e,hf⟩
 ·rw[e]at hb;exact Qo _ hb
 rw[e]at hb;unfold frs at hb;rw[List.filterMap_cons,hf]at hb;exact hb
theorem Inv.stkFree (I:Inv X pins U H s):∀b∈frs X.stack,H b=none:=λb hb=>by
 rcases Qh.mp (I.stkSub b hb) with e|hb
 ·rw[e];exact I.free
 obtain⟨_,o,ho,_⟩:=I.ok.funs.mem hb;exact I.base.free b o ho (I.ok.frf b hb) λz=>I.ok.exfs b z hb
theorem Inv.step {g':Array GenState} {t':Nat} {d':Drawn} {ch:A3} (I:Inv X pins U H s)
  (hch:∀b∈ch,(b∈X.ex\/X.s₀.heap.objs.size<=b)/\b≠X.env.locals/\(∀x c,X.env.cells.lookup x=some c->c≠b)/\∀p∈X.pn++pins,p.1≠b)
  (keep:∀b o,b≠X.env.locals->b∉X.fs->b∉ch->s.heap.get? b=some o->H b=none->h'.get? b=some o)
  (slot:∀b o,b≠X.env.locals->b∈X.fs->b∉ch->s.heap.get? b=some o->H b=none->∃sl,h'.get? b=some { o with slots:=sl }) (free:∀b o,b∉ch->s.heap.get? b=some o->H b=none->H' b=none)
  (there:∀b o,b∉ch->s.heap.get? b=some o->∃o',h'.get? b=some o')
  (tups:∀b xs,H b=some (.tup xs)->H' b=some (.tup xs)) (frzs:∀b o u,H b=some (.frz o u)->H' b=some (.frz o u)) (tbls:∀b ps,H b=some (.tbl ps)->∃more,H' b=some (.tbl (ps++more)))
  (ns:∀m,s.heap.Ns X.env.locals m->h'.Ns X.env.locals m) (hok:HOk X.prog X.w H' h') (hg:AllBare g') :
  Inv X pins U H' { s with heap:=h',gens:=g',drawn:=d',toks:=t' }:=by
 have neL:∀b o,X.s₀.heap.get? b=some o->b≠X.env.locals:=λb o e=>QC (QL (Qp e) I.ok.above)
 have neC:∀b o,X.s₀.heap.get? b=some o->b∉X.ex->b∉ch:=λb o e hx hb=>by
  rcases(hch b hb).1 with z|z
  ·exact hx z
  exact absurd (QL (Qp e) z) (XV _)
 have cellK:∀x c,X.env.cells.lookup x=some c->∀v,s.heap.IsCell c v->h'.IsCell c v:=λx c e v ⟨o,ho,hd⟩=>by
  have nch:c∉ch:=λz=>(hch c z).2.2.1 x c e rfl;by_cases hc:c∈X.fs
  ·obtain⟨sl,q⟩:=slot c o (I.cne x c e) hc nch ho (I.freeC x c e);exact⟨_,q,hd⟩
  exact⟨o,keep c o (I.cne x c e) hc nch ho (I.freeC x c e),hd⟩
 refine⟨I.ok,I.os,hg,⟨λb o e n hb hx=>?_,λb o e n hb hx=>?_,λb o e n hx=>?_,λb o e hx=>?_,λb xs e=>tups b xs (I.base.tups b xs e),λb o xs e=>frzs b o xs (I.base.frzs b o xs e),λb ps e=>?_⟩,?_,λx c e=>?_,?_,λx c e=>?_,λp hp=>?_,hok,I.len⟩
 ·exact keep b o (neL b o e) hb (neC b o e hx) (I.base.keep b o e n hb hx) (I.base.free b o e n hx)
 ·obtain⟨sl,e1⟩:=I.base.slot b o e n hb hx;obtain⟨sl',e2⟩:=slot b _ (neL b o e) hb (neC b o e hx) e1 (I.base.free b o e n hx);exact⟨sl',e2⟩
 ·obtain⟨o',e1⟩:=I.base.there b o e hx;exact free b o' (neC b o e hx) e1 (I.base.free b o e n hx)
 ·obtain⟨o',e1⟩:=I.base.there b o e hx;exact there b o' (neC b o e hx) e1
 ·obtain⟨m1,e1⟩:=I.base.tbls b ps e;obtain⟨m2,e2⟩:=tbls b _ e1;exact⟨m1++m2,by rw[e2,Array.append_assoc]⟩
 ·obtain⟨m,hn,hl⟩:=I.loc;refine⟨m,ns m hn,λi x v e1 e2 e3=>?_⟩;obtain⟨u,r,l⟩:=hl i x v e1 e2 e3;refine⟨u,r,?_⟩;rcases l with l|⟨k,c,e,z⟩
  ·exact .inl l
  exact .inr ⟨k,c,e,cellK x c e _ z⟩
 ·obtain⟨v,z⟩:=I.cell x c e;exact⟨v,cellK x c e v z⟩
 ·obtain⟨m,⟨o,_,_,ho,_⟩,_⟩:=I.loc;exact free _ o (λz=>(hch _ z).2.1 rfl) ho I.free
 ·obtain⟨v,o,ho,hd⟩:=I.cell x c e;exact free c o (λz=>(hch c z).2.2.1 x c e rfl) ho (I.freeC x c e)
 obtain⟨e,n,ne,nf,d⟩:=I.pin p hp;have nch:p.1∉ch:=λz=>(hch p.1 z).2.2.2 p hp rfl;exact⟨keep p.1 p.2 ne nf nch e n,free p.1 p.2 nch e n,ne,nf,d⟩
theorem Inv.un {t':Nat} (I:Inv X pins U H s) (u:Un X.fs [] H H' s.heap h') (hok:HOk X.prog X.w H' h'):Inv X pins U H' { s with heap:=h',toks:=t' }:=by
 obtain⟨m,⟨o,es,ep,ho,r⟩,_⟩:=id I.loc;obtain⟨sl,hL⟩:=u.any ho I.free (by simp)
 exact I.step (g':=s.gens) (d':=s.drawn) (ch:=[]) (λ_ z=>nomatch z) (λb o _ hb _ e n=>u.keep b o e n hb (by simp)) (λb o _ hb _ e n=>u.slot b o e n hb (by simp)) (λb o _ e n=>u.free b o e n (by simp)) (λb o _ e=>u.there b o e (by simp)) u.tups u.frzs u.tbls (λm' hm=>by
  obtain⟨o',es',ep',ho',r'⟩:=hm;rw[ho]at ho';cases ho'
  exact⟨_,es',ep',hL,r'⟩) hok I.bare
theorem Inv.call {g':Array GenState} {t':Nat} {d':Drawn} {ch:A3} (I:Inv X pins U H s) (u:Un (frs X.stack) ch H H' s.heap h') (hok:HOk X.prog X.w H' h') (hg:AllBare g')
  (hch:∀b∈ch,(b∈X.ex\/X.s₀.heap.objs.size<=b)/\b≠X.env.locals/\(∀x c,X.env.cells.lookup x=some c->c≠b)/\∀p∈X.pn++pins,p.1≠b) :
  Inv X pins U H' { s with heap:=h',gens:=g',drawn:=d',toks:=t' }:=by
 obtain⟨m,⟨o,es,ep,ho,r⟩,_⟩:=id I.loc;obtain⟨sl,hL⟩:=u.any ho I.free λz=>(hch _ z).2.1 rfl
 exact I.step (ch:=ch) hch (λb o hL hb hc e n=>u.keep b o e n (λz=>(Qh.mp (I.stkSub b z)).elim hL hb) hc) (λb o _ _ hc e n=>u.any e n hc) (λb o hc e n=>u.free b o e n hc) (λb o hc e=>u.there b o e hc) u.tups u.frzs u.tbls (λm' hm=>by
  obtain⟨o',es',ep',ho',r'⟩:=hm;rw[ho]at ho';cases ho'
  exact⟨_,es',ep',hL,r'⟩) hok hg
theorem Inv.turned {t':Nat} {it:Addr} (I:Inv X pins U H s) (k:∀b o,b≠it->s.heap.get? b=some o->h'.get? b=some o) (hn:H it=none) (hL:it≠X.env.locals)
  (h1:it∈X.ex\/X.s₀.heap.objs.size<=it) (h2:∀x c,X.env.cells.lookup x=some c->c≠it) (h3:∀p∈X.pn++pins,p.1≠it):Inv X pins U H { s with heap:=h',toks:=t' }:=by
 have nit:∀b u,H b=some u->b≠it:=λb u e z=>by rw[z,hn]at e;cases e
 refine I.step (g':=s.gens) (d':=s.drawn) (ch:=[it]) (λb hb=>?_) (λb o _ _ hc e _=>k b o (λz=>hc (by simp[z])) e) (λb o _ _ hc e _=>⟨o.slots,k b o (λz=>hc (by simp[z])) e⟩) (λ_ _ _ _ n=>n)
  (λb o hc e=>⟨o,k b o (λz=>hc (by simp[z])) e⟩) (λ_ _ e=>e) (λ_ _ _ e=>e) (λb ps e=>⟨#[],by rw[e];simp⟩) (λm hm=>?_) (λb u e=>?_) I.bare
 ·have e:b=it:=by simpa using hb
  subst e;exact⟨h1,hL,h2,h3⟩
 ·obtain⟨o,es,ep,ho,r⟩:=hm;exact⟨o,es,ep,k _ o (Ne.symm hL) ho,r⟩
 refine(I.hok b u e).stay (λc v hc q=>k c v ?_ q) (λ_ q=>q) λ_ _ q=>q;rcases hc with z|z
 ·rw[z];exact nit b u e
 exact nit c _ z
theorem Inv.tok (I:Inv X pins U H s) (t:Nat):Inv X pins U H { s with toks:=t }:=I.un (h':=s.heap) (t':=t) Un.refl I.hok
theorem Inv.kept {t':Nat} (I:Inv X pins U H s) (k:∀b u,s.heap.get? b=some u->h'.get? b=some u):Inv X pins U H { s with heap:=h',toks:=t' }:=I.un (Un.kept k) (I.hok.kept k)
theorem Inv.laid {a:Addr} {o:HO} {t':Nat} (I:Inv X pins U H s) (k:∀b u,s.heap.get? b=some u->h'.get? b=some u) (hp:s.heap.objs.size<=a) (new:bo X.prog X.w (upd H a o) h' a o) :
  Inv X pins U (upd H a o) { s with heap:=h',toks:=t' }:=I.un (Un.laid k hp (I.hok.fresh hp)) (I.hok.laid k hp new)
theorem Inv.write {x e:Addr} {o:HO} {t':Nat} (I:Inv X pins U H s) (mu:Mut (H x)) (he:e=x\/H e=some (.own x)) (k:∀b u,b≠e->s.heap.get? b=some u->h'.get? b=some u) (heo:∃u,h'.get? e=some u)
  (new:bo X.prog X.w (upd H x o) h' x o):Inv X pins U (upd H x o) { s with heap:=h',toks:=t' }:=I.un (Un.write mu he k heo) (I.hok.write mu he k heo new)
theorem Inv.weak {σ':List (Option V)} (I:Inv X pins U H s) (hl:σ'.length=U.length) (w:∀(i:Nat) v,σ'[i]?=some (some v)->U[i]?=some (some v)):Inv X pins σ' H s :=
 ⟨I.ok,I.os,I.bare,I.base,let ⟨m,hn,hl'⟩:=I.loc;⟨m,hn,λi x v e1 e2 e3=>hl' i x v e1 (w i v e2) e3⟩,I.cell,I.free,I.freeC,I.pin,I.hok,hl.trans I.len⟩
theorem Inv.pins_of {pins':A1} (I:Inv X pins U H s) (h:∀p∈pins',s.heap.get? p.1=some p.2/\H p.1=none/\p.1≠X.env.locals/\p.1∉X.fs/\∀v,p.2.data≠.cell v):Inv X pins' U H s :=
 ⟨I.ok,I.os,I.bare,I.base,I.loc,I.cell,I.free,I.freeC,λp hp=>(Qw.mp hp).elim (λz=>I.pin p (Q6 _ z)) (h p),I.hok,I.len⟩
theorem kU {N:List Str} (hN:N.Nodup) {i j:Nat} {x:Str} (a:N[i]?=some x) (b:N[j]?=some x):i=j:=by
 obtain⟨h1,e1⟩:=Qe.mp a;obtain⟨h2,e2⟩:=Qe.mp b;exact(List.getElem_inj hN).mp (e1.trans e2.symm)
variable {Q:Unit->Shared->Prop} {E:A0}
theorem iH {M:Model} {A:Around} {i:Nat} {x:Str} {v:V} {u:Value} (I:Inv X pins U H s) (hN:X.N.Nodup) (hi:X.N[i]?=some x) (hx:Loc X.env.scope x) (r:aI v u)
  (h:∀s',Inv X pins (U.set i (some v)) H s'->(∃a,Heap.SameBut a s.heap s'.heap/\(a=X.env.locals\/X.env.cells.lookup x=some a))->Q () s') (hf:X.fn x=true\/X.env.scope.names.lookup x=some .local:=by z_go):wpAny M A (storeName X.env x u) Q E s:=by
 obtain⟨m,hn,hl⟩:=id I.loc;have hcls:(X.env.scope.kind==.class || (X.env.scope.kind==.module&&X.env.locals != X.env.globals))=false:=by rw[I.ok.kind];rfl
 have hiσ:i<U.length:=by rw[I.len];exact(Qe.mp hi).1
 have cne:=I.cne
 have tracked:∀{a:Addr} {h':Heap},(∃o,s.heap.get? a=some o/\H a=none)->Heap.SameBut a s.heap h'->HOk X.prog X.w H h':=λ{a h'} ha hs b ob e=>by
  obtain⟨_,_,hfree⟩:=ha;refine(I.hok b ob e).stay (λc w' hc q=>(hs.2 c ?_).trans q) (λ_ q=>q) λ_ _ q=>q;rintro rfl;rcases hc with rfl|hc
  ·rw[hfree]at e;cases e
  rw[hfree]at hc;cases hc
 rcases hx with hk|hk
 ·refine wpAny_storeName_local hk hn (λh' hn' hs=>?_) hcls;obtain⟨oL,_,_,hoL,_⟩:=id hn;refine h _ ⟨I.ok,I.os,I.bare,⟨λb o e n hb hx=>?_,λb o e n hb hx=>?_,I.base.free,λb o e hx=>?_,I.base.tups,I.base.frzs,I.base.tbls⟩,⟨_,hn',λj y v' e1 e2 e3=>?_⟩,λy c e=>?_,I.free,I.freeC,λp hp=>?_,tracked ⟨oL,hoL,I.free⟩ hs,by simpa using I.len⟩ ⟨_,hs,.inl rfl⟩
  ·exact(hs.2 b (QC (QL (Qp e) I.ok.above))).trans (I.base.keep b o e n hb hx)
  ·obtain⟨sl,e1⟩:=I.base.slot b o e n hb hx;exact⟨sl,(hs.2 b (QC (QL (Qp e) I.ok.above))).trans e1⟩
  ·obtain⟨o',e1⟩:=I.base.there b o e hx;exact⟨o',(hs.2 b (QC (QL (Qp e) I.ok.above))).trans e1⟩
  ·by_cases hj:j=i
   ·subst hj;rw[hi]at e1;cases e1;rw[List.getElem?_set_self hiσ]at e2;cases e2;exact⟨u,r,.inl ⟨hk,by simp⟩⟩
   rw[List.getElem?_set_ne (Ne.symm hj)]at e2;obtain⟨u',r',q⟩:=hl j y v' e1 e2 e3;refine⟨u',r',?_⟩;rcases q with⟨k,e⟩|⟨k,c,e,z⟩
   ·refine .inl ⟨k,?_⟩;have:y≠x:=λe=>hj (kU hN e1 (e▸hi));simp[this,e]
   exact .inr ⟨k,c,e,z.sameBut hs (cne y c e)⟩
  ·obtain⟨w',z⟩:=I.cell y c e;exact⟨w',z.sameBut hs (cne y c e)⟩
  obtain⟨e,n,ne,nf,d⟩:=I.pin p hp;exact⟨(hs.2 p.1 ne).trans e,n,ne,nf,d⟩
 have hfn:X.fn x=true:=by
  rcases hf with z|z
  ·exact z
  rw[z]at hk;cases hk
 obtain⟨c,hc⟩:=I.ok.has x (.inl hk);obtain⟨w',z⟩:=I.cell x c hc;refine wpAny_storeName_cell I.ok.kind hk hc z (λh' hc' hs=>?_);obtain⟨oc,hoc,hocd⟩:=id z;refine h { s with heap:=h' } ⟨I.ok,I.os,I.bare,⟨λb o e n hb hx=>?_,λb o e n hb hx=>?_,I.base.free,λb o e hx=>?_,I.base.tups,I.base.frzs,I.base.tbls⟩,⟨m,hn.sameBut hs (Ne.symm (cne x c hc)),λj y v' e1 e2 e3=>?_⟩,λy c' e=>?_,I.free,I.freeC,λp hp=>?_,tracked ⟨oc,hoc,I.freeC x c hc⟩ hs,by simpa using I.len⟩ ⟨c,hs,.inr hc⟩
 ·exact(hs.2 b (QC (QL (Qp e) (I.ok.cab x c hfn hc)))).trans (I.base.keep b o e n hb hx)
 ·obtain⟨sl,e1⟩:=I.base.slot b o e n hb hx;exact⟨sl,(hs.2 b (QC (QL (Qp e) (I.ok.cab x c hfn hc)))).trans e1⟩
 ·obtain⟨o',e1⟩:=I.base.there b o e hx;exact⟨o',(hs.2 b (QC (QL (Qp e) (I.ok.cab x c hfn hc)))).trans e1⟩
 ·by_cases hj:j=i
  ·subst hj;rw[hi]at e1;cases e1;rw[List.getElem?_set_self hiσ]at e2;cases e2;exact⟨u,r,.inr ⟨.inl hk,c,hc,hc'⟩⟩
  rw[List.getElem?_set_ne (Ne.symm hj)]at e2;obtain⟨u',r',q⟩:=hl j y v' e1 e2 e3;refine⟨u',r',?_⟩;rcases q with q|⟨k,c',e,z'⟩
  ·exact .inl q
  refine .inr ⟨k,c',e,z'.sameBut hs ?_⟩;rintro rfl;exact hj (kU hN e1 (I.ok.inj _ _ _ e hc▸hi))
 ·by_cases hcc:c'=c
  ·subst hcc;exact⟨_,hc'⟩
  obtain⟨w2,z2⟩:=I.cell y c' e;exact⟨w2,z2.sameBut hs hcc⟩
 obtain⟨e,n,ne,nf,d⟩:=I.pin p hp;refine⟨(hs.2 p.1 ?_).trans e,n,ne,nf,d⟩;intro q;rw[q,hoc]at e;have q':oc=p.2:=QJ e;exact d w' (by rw[<-q'];exact hocd)
theorem gy {M:Model} {A:Around} {i:Nat} {x:Str} {v:V} {u:Value} (I:Inv X pins U H s) (hN:X.N.Nodup) (hi:X.N[i]?=some x) (hx:Loc X.env.scope x) (r:aI v u)
  (h:∀s',Inv X pins (U.set i (some v)) H s'->Q () s') (hf:X.fn x=true\/X.env.scope.names.lookup x=some .local:=by z_go):wpAny M A (storeName X.env x u) Q E s :=
 iH I hN hi hx r (λs' I' _=>h s' I') hf
theorem Inv.call' {s':Shared} {ch:A3} (I:Inv X pins U H s) (ho:s'.os=s.os) (u:Un (frs X.stack) ch H H' s.heap s'.heap) (hok:HOk X.prog X.w H' s'.heap) (hg:AllBare s'.gens)
  (hch:∀b∈ch,(b∈X.ex\/X.s₀.heap.objs.size<=b)/\b≠X.env.locals/\(∀x c,X.env.cells.lookup x=some c->c≠b)/\∀p∈X.pn++pins,p.1≠b):Inv X pins U H' s':=by
 obtain⟨h',g',d',t',o'⟩:=s';have e:o'=s.os:=ho;subst e;exact I.call (g':=g') (t':=t') (d':=d') u hok hg hch
end
abbrev XK:=Value->Option Addr->Hp->Prop
abbrev St:=List (Option V)
abbrev VK:=V->Hp->Prop
abbrev TE:=St->Hp->VK->Prop
abbrev TT:=St->Hp->(Bool->Hp->Prop)->Prop
abbrev TA:=St->Hp->(List V->Hp->Prop)->Prop
structure Ends where
 nx:St->Hp->Prop
 rt:VK
 bk:St->Hp->Prop:=λ_ _=>False
 ct:St->Hp->Prop:=λ_ _=>False
abbrev TS:=Ends->St->Hp->Prop
def EP (X:Cx) (pins:A1) (U:St) (Q:VK) (u:Value) (s':Shared):Prop:=∃v H',Inv X pins U H' s'/\aI v u/\Q v H'
def TP (X:Cx) (pins:A1) (U:St) (Q:Bool->Hp->Prop) (b:Bool) (s':Shared):Prop:=∃H',Inv X pins U H' s'/\Q b H'
def AP (X:Cx) (pins:A1) (U:St) (Q:List V->Hp->Prop) (us:List Value) (s':Shared):Prop:=∃vs H',Inv X pins U H' s'/\aO vs us/\Q vs H'
def SP (X:Cx) (pins:A1) (D:Ends) (f:Flow) (s':Shared):Prop :=
 match f with
 | .next=>∃σ' H',Inv X pins σ' H' s'/\D.nx σ' H'
 | .brk=>∃σ' H',Inv X pins σ' H' s'/\D.bk σ' H'
 | .cont=>∃σ' H',Inv X pins σ' H' s'/\D.ct σ' H'
 | .ret u=>∃v σ' H',Inv X pins σ' H' s'/\aI v u/\D.rt v H'
def PE (X:Cx) (e:Expr) (t:TE):Prop :=
 ∀(pins:A1) (s:Shared) (U:St) (H:Hp) (Q:VK),Inv X pins U H s->t U H Q->wpAny (model X.prog X.w) X.A (eval e X.env) (EP X pins U Q) X.xe s
def PT (X:Cx) (e:Expr) (t:TT):Prop :=
 ∀(pins:A1) (s:Shared) (U:St) (H:Hp) (Q:Bool->Hp->Prop),Inv X pins U H s->t U H Q->wpAny (model X.prog X.w) X.A (isTrue e X.env (eval e X.env)) (TP X pins U Q) X.xe s
def PW (X:Cx) (e:Expr) (t:TT):Prop :=
 ∀(whole:Sem Value) (pins:A1) (s:Shared) (U:St) (H:Hp) (Q:Bool->Hp->Prop),Inv X pins U H s->t U H Q->wpAny (model X.prog X.w) X.A (isTrue e X.env whole) (TP X pins U Q) X.xe s
variable {e tg:Expr} {X:Cx}
theorem PW.pt {t:TT} (h:PW X e t):PT X e t:=h _
def PA (X:Cx) (es:List Expr) (t:TA):Prop :=
 ∀(pos:Pos) (pins:A1) (s:Shared) (U:St) (H:Hp) (Q:List V->Hp->Prop),Inv X pins U H s->t U H Q->wpAny (model X.prog X.w) X.A (spliced (backTo pos (starEach es X.env))) (AP X pins U Q) X.xe s
def PS (X:Cx) (st:Stmt) (t:TS):Prop :=
 ∀(pins:A1) (s:Shared) (U:St) (H:Hp) (D:Ends),Inv X pins U H s->t D U H->wpAny (model X.prog X.w) X.A (exec st X.env) (SP X pins D) X.xe s
def PSs (X:Cx) (st:List Stmt) (t:TS):Prop :=
 ∀(pins:A1) (s:Shared) (U:St) (H:Hp) (D:Ends),Inv X pins U H s->t D U H->wpAny (model X.prog X.w) X.A (execs st X.env) (SP X pins D) X.xe s
variable {s s1:Shared} {E:A0}
theorem thn {α:Type} {t:Sem α} {Q Q':α->Shared->Prop} {M:Model} (h:wpAny M A t Q E s) (hQ:∀a s,Q a s->Q' a s):wpAny M A t Q' E s:=XM h hQ λ_ _ x=>x
section
variable {X:Cx}
def eI (i:Nat):TE:=λU H Q=>∃v,U[i]?=some (some v)/\Q v H
def tC (v:V):TE:=λ_ H Q=>Q v H
variable {x:Str}
theorem v9 {i:Nat} {pos:Pos} (hN:X.N[i]?=some x) (hv:Vis X.env.scope x) (hd:(x==("__debug__" : Str))=false:=by decide) (hcd:(x==("__classdict__" : Str))=false:=by decide):PE X (.Name x pos) (eI i):=by
 intro pins s U H Q I h;obtain⟨v,e,h⟩:=h;obtain⟨m,hn,hl⟩:=I.loc;obtain⟨u,r,l⟩:=hl i x v hN e hv;have fin:EP X pins U Q u s:=⟨v,H,I,r,h⟩;rcases l with⟨hk,hm⟩|⟨hk,c,hc,hcell⟩
 ·exact wpAny_Name (wpAny_loadName_local I.ok.kind hk hn hm fin) hd
 rcases hk with hk|hk
 ·exact wpAny_Name (wpAny_loadName_cell I.ok.kind hk hc hcell fin) hd
 exact wpAny_Name (wpAny_loadName_free I.ok.kind hk hc hcell fin hcd) hd
theorem af {i j pos}:PE X (.Constant (.int i) j pos) (tC (.int i)):=λ_ _ _ H _ I h=>wpAny_Constant_int ⟨.int i,H,I.tok _,⟨_,rfl⟩,h⟩
theorem fg {b j pos}:PE X (.Constant (.bool b) j pos) (tC (.bl b)):=λ_ _ _ H _ I h=>Constant_bool ⟨.bl b,H,I,rfl,h⟩
theorem rC {j pos}:PE X (.Constant .none j pos) (tC .non):=λ_ _ _ H _ I h=>Constant_none ⟨.non,H,I,rfl,h⟩
theorem bc {x j pos}:PE X (.Constant (.str x) j pos) (tC (.str x)):=λ_ _ _ H _ I h=>Calls.Constant_str ⟨.str x,H,I.tok _,⟨_,rfl⟩,h⟩
def Gl (X:Cx) (x:Str):Prop:=X.env.kindOf x=some .globalImplicit
variable {Q E:A0} {u:Value} {pins:A1}
theorem jF {s:Shared} {U:St} {H:Hp} {pos:Pos} (I:Inv X pins U H s) (hg:Gl X x) (hm:X.mg x=some u) (h:Q u s)
  (hd:(x==("__debug__" : Str))=false:=by decide):wpAny (model X.prog X.w) X.A (eval (.Name x pos) X.env) Q E s :=
 Calls.Name_function_global I.ok.kind hg (Calls.loadGlobal_global (by rw[I.ok.glob];exact I.mod.glob.keeps I.bk) hm h) hd
theorem d8 {s:Shared} {U:St} {H:Hp} {pos:Pos} (I:Inv X pins U H s) (hg:Gl X x) (hm:X.mg x=none) (hv:bootBuiltins x=some u) (h:Q u s)
  (hn:x ≠ "__name__" := by decide) (hd:(x==("__debug__" : Str))=false:=by decide):wpAny (model X.prog X.w) X.A (eval (.Name x pos) X.env) Q E s:=by
 obtain⟨mb,h1,h2⟩:=I.mod.blt;exact Calls.Name_function_global I.ok.kind hg (Calls.loadGlobal_builtin (by rw[I.ok.glob];exact I.mod.glob.keeps I.bk) hm (by rw[I.ok.blt];exact h1.keeps I.bk) ((h2 x hn).trans hv) h) hd
theorem jA {v:V} {pos:Pos} (hg:Gl X x) (hm:X.mg x=some u) (r:aI v u) (hd:(x==("__debug__" : Str))=false:=by decide):PE X (.Name x pos) (tC v) :=
 λ_ _ _ H _ I h=>jF I hg hm ⟨v,H,I,r,h⟩ hd
variable {a b:Expr} {ta tb:TE} {pos:Pos}
def PC (X:Cx) (op:CmpOp) (a b:Expr) (t:TE):Prop :=
 ∀(pins:A1) (s:Shared) (U:St) (H:Hp) (Q:VK),Inv X pins U H s->t U H Q ->
  wpAny (model X.prog X.w) X.A (eval a X.env) (λv s₁=>wpAny (model X.prog X.w) X.A (eval b X.env) (λu s₂=>wpAny (model X.prog X.w) X.A (compareOp op v u) (EP X pins U Q) X.xe s₂) X.xe s₁) X.xe s
def tB (t:TE):TT:=λU H Q=>t U H λx H1=>∃c,x=.bl c/\Q c H1
theorem rh {op:CmpOp} {t:TE} (h:PC X op a b t) (h1:behindInMarks op b=false:=by first|exact nobehind _ (by decide) (by decide)|rfl):PT X (.Compare a [op] [b] pos) (tB t):=by
 intro pins s U H Q I hw;refine wpAny_isTrue_Compare1 (thn (h pins s U H _ I hw) λv s1 h1=>thn h1 λu s2 h2=>thn h2 λc s3 ⟨x,H1,I1,r1,q1⟩=>?_) h1;obtain⟨d,rfl,q⟩:=q1;cases r1;exact wpAny_truthy_bool ⟨H1,I1,q⟩
theorem mC {e:Expr} {t:TE} (h:PE X e t) (he:∀whole,isTrue e X.env whole=(do let v <-whole;standAt e.pos;holding [v] (truthy v)):=by intro _;rfl):PT X e (tB t):=by
 intro pins s U H Q I hw;refine isTrue_plain (thn (h pins s U H _ I hw) λv s1 ⟨x,H1,I1,r1,q1⟩=>?_) (he _);obtain⟨d,rfl,q⟩:=q1;cases r1;exact wpAny_truthy_bool ⟨H1,I1,q⟩
variable {tA tB':TT} {rest:List Expr}
def xi (t u:TT):TT:=λU H Q=>t U H λc H1=>if c=true then u U H1 Q else Q false H1
def tOr (t u:TT):TT:=λU H Q=>t U H λc H1=>if c=true then Q true H1 else u U H1 Q
def w9 (t:TT):TT:=λU H Q=>t U H λc H1=>Q (!c) H1
theorem on (ha:PT X a tA):PW X (.BoolOp .And [a] pos) tA:=by
 intro wh pins s U H Q I h;refine isTrue_and (thn (ha pins s U H Q I h) λc s1 e=>?_)
 cases c with
 | true=>exact isTrue_and_nil e
 | false=>exact e
theorem v4 (ha:PT X a tA):PW X (.BoolOp .Or [a] pos) tA:=by
 intro wh pins s U H Q I h;refine isTrue_or (thn (ha pins s U H Q I h) λc s1 e=>?_)
 cases c with
 | false=>exact isTrue_or_nil e
 | true=>exact e
theorem rf (ha:PT X a tA) (hb:PW X (.BoolOp .And (b::rest) pos) tB'):PW X (.BoolOp .And (a::b::rest) pos) (xi tA tB'):=by
 intro wh pins s U H Q I h;refine isTrue_and (thn (ha pins s U H _ I h) λc s1 ⟨H1,I1,q1⟩=>?_)
 cases c with
 | true=>exact hb wh pins s1 U H1 Q I1 q1
 | false=>exact⟨H1,I1,q1⟩
theorem xu (ha:PT X a tA) (hb:PW X (.BoolOp .Or (b::rest) pos) tB'):PW X (.BoolOp .Or (a::b::rest) pos) (tOr tA tB'):=by
 intro wh pins s U H Q I h;refine isTrue_or (thn (ha pins s U H _ I h) λc s1 ⟨H1,I1,q1⟩=>?_)
 cases c with
 | true=>exact⟨H1,I1,q1⟩
 | false=>exact hb wh pins s1 U H1 Q I1 q1
theorem rg (ha:PT X a tA):PT X (.UnaryOp .Not a pos) (w9 tA):=by
 intro pins s U H Q I h;exact isTrue_not (ha pins s U H (λc H1=>Q (!c) H1) I h)
def xh (ta tb:TE):TE:=λU H Q=>ta U H λx H1=>∃c,x=.bl c/\if c=true then tb U H1 Q else Q (.bl false) H1
def w4 (ta tb:TE):TE:=λU H Q=>ta U H λx H1=>∃c,x=.bl c/\if c=true then Q (.bl true) H1 else tb U H1 Q
def w6 (ta:TE):TE:=λU H Q=>ta U H λx H1=>∃c,x=.bl c/\Q (.bl (!c)) H1
theorem v_ {op} {t:TE} (h:PE X a t):PE X (.BoolOp op [a] pos) t:=λpins s U H Q I hw=>BoolOp_one (h pins s U H Q I hw)
theorem xv (ha:PE X a ta) (hb:PE X (.BoolOp .Or (b::rest) pos) tb):PE X (.BoolOp .Or (a::b::rest) pos) (w4 ta tb):=by
 intro pins s U H Q I h;refine BoolOp_or (thn (ha pins s U H _ I h) λv s1 ⟨x,H1,I1,r1,q1⟩=>?_);obtain⟨c,rfl,q1⟩:=q1;cases r1;refine wpAny_truthy_bool ?_
 cases c with
 | false=>exact hb pins s1 U H1 Q I1 q1
 | true=>exact⟨.bl true,H1,I1,rfl,q1⟩
def tIf (t:TT) (ta tb:TE):TE:=λU H Q=>t U H λc H1=>if c=true then ta U H1 Q else tb U H1 Q
theorem kQ {c:Expr} (hc:PT X c tA) (ha:PE X a ta) (hb:PE X b tb):PE X (.IfExp c a b pos) (tIf tA ta tb):=by
 intro pins s U H Q I h;refine wpAny_IfExp (thn (hc pins s U H _ I h) λd s1 ⟨H1,I1,q1⟩=>?_)
 cases d with
 | true=>exact ha pins s1 U H1 Q I1 q1
 | false=>exact hb pins s1 U H1 Q I1 q1
end
def SqL (K:PySem.W.Frag) (H:Hp) (a:Addr) (xs:List V):Prop :=
 Rd H a (.lst xs) \/
  ∃(o:Obj) (its:Array Value) (n:Nat),K.lookup a=some o/\o.cls=.type "list" /\ o.dict=none/\o.data=.seq its n/\its.size<=sizeLine/\aO xs its.toList
def SqT (K:PySem.W.Frag) (H:Hp) (a:Addr) (xs:List V):Prop :=
 Rd H a (.tup xs) \/
  ∃(o:Obj) (its:Array Value) (n:Nat),K.lookup a=some o/\o.cls=.type "tuple" /\ o.data=.seq its n/\its.size<=sizeLine/\aO xs its.toList
noncomputable def yA:Value->Option V
 | .none=>some .non
 | .bool b=>some (.bl b)
 | .int i _=>some (.int i)
 | .str x _=>some (.str x)
 | .bytes b _=>some (.byt b)
 | .float b _=>some (.flt b)
 | .ref a=>some (.ref a)
 | .type n=>some (.ty n)
 | _=>none
theorem aI.abs {x:V} (r:aI x u):yA u=some x:=by
 cases x with
 | non=>cases r;rfl
 | bl _=>cases r;rfl
 | int _=>obtain⟨t,rfl⟩:=r;rfl
 | str _=>obtain⟨t,rfl⟩:=r;rfl
 | byt _=>obtain⟨t,rfl⟩:=r;rfl
 | flt _=>obtain⟨t,rfl⟩:=r;rfl
 | ref _=>cases r;rfl
 | ty _=>cases r;rfl
theorem aI.inj {x y:V} (r:aI x u) (q:aI y u):x=y:=QJ (r.abs.symm.trans q.abs)
theorem aO.inj:∀{xs ys:List V} {us:List Value},aO xs us->aO ys us->xs=ys
 | _,_,_,.nil,.nil=>rfl
 | _,_,_,.cons r t,.cons r' t'=>by rw[r.inj r',aO.inj t t']
section
variable {X:Cx} {pins:A1} {U:St} {H:Hp} {s:Shared} {a:Addr} {xs ys:List V}
theorem SqL.of {K:PySem.W.Frag} (h:H a=some (.lst xs)):SqL K H a xs:=.inl (.inl h)
theorem SqT.of {K:PySem.W.Frag} (h:H a=some (.tup xs)):SqT K H a xs:=.inl (.inl h)
theorem Inv.list (I:Inv X pins U H s) (h:SqL X.K H a xs):∃its:List Value,aO xs its/\PlainL s.heap a its.toArray/\xs.length<=sizeLine:=by
 rcases h with h|⟨o,its,n,hk,hc,hd,hs,hz,r⟩
 ·obtain⟨z,its,n,r,e⟩:=h.ok I.hok;exact⟨its,r,⟨_,n,e,rfl,rfl,rfl⟩,z⟩
 refine⟨its.toList,r,⟨o,n,I.kIn a o hk,hc,hd,by simpa using hs⟩,?_⟩;have e:=r.length;simp only[Ql]at e;omega
theorem Inv.tuple (I:Inv X pins U H s) (h:SqT X.K H a xs):∃its:List Value,aO xs its/\IsTup s.heap a its.toArray/\xs.length<=sizeLine:=by
 rcases h with h|⟨o,its,n,hk,hc,hs,hz,r⟩
 ·obtain⟨z,its,r,p⟩:=h.ok I.hok;exact⟨its,r,p,z⟩
 refine⟨its.toList,r,⟨o,I.kIn a o hk,hc,n,by simpa using hs⟩,?_⟩;have e:=r.length;simp only[Ql]at e;omega
theorem Inv.list_inj (I:Inv X pins U H s) (h:SqL X.K H a xs) (h':SqL X.K H a ys):xs=ys:=by
 obtain⟨its,r,⟨o,n,e,_,_,d⟩,_⟩:=I.list h;obtain⟨its',r',⟨o',n',e',_,_,d'⟩,_⟩:=I.list h';rw[e]at e';cases e';rw[d]at d';injection d' with d1 _;have:its=its':=by simpa using congrArg Array.toList d1
 subst this;exact r.inj r'
theorem Inv.tuple_inj (I:Inv X pins U H s) (h:SqT X.K H a xs) (h':SqT X.K H a ys):xs=ys:=by
 obtain⟨its,r,⟨o,e,_,n,d⟩,_⟩:=I.tuple h;obtain⟨its',r',⟨o',e',_,n',d'⟩,_⟩:=I.tuple h';rw[e]at e';cases e';rw[d]at d';injection d' with d1 _;have:its=its':=by simpa using congrArg Array.toList d1
 subst this;exact r.inj r'
end
abbrev Cx.wish (X:Cx) (E:A0):Cx:={ X with xe:=E }
abbrev Cx.nox (X:Cx):Cx:=X.wish λ_ _=>False
theorem Cx.Ok.wish (ok:X.Ok) (E:A0):(X.wish E).Ok :=
 ⟨ok.mod,ok.kind,ok.glob,ok.blt,ok.above,ok.inj,ok.has,ok.cab,ok.hd,ok.frames,ok.stk,ok.exf,ok.bs,ok.bsz,ok.noex,ok.exfs,ok.funs,ok.frf⟩
theorem Cx.Ok.unwish (ok:(X.wish E).Ok):X.Ok :=
 ⟨ok.mod,ok.kind,ok.glob,ok.blt,ok.above,ok.inj,ok.has,ok.cab,ok.hd,ok.frames,ok.stk,ok.exf,ok.bs,ok.bsz,ok.noex,ok.exfs,ok.funs,ok.frf⟩
section
variable {X:Cx} {pins:A1} {U:St} {H:Hp} {s:Shared} {E:A0}
theorem Inv.wish (I:Inv X pins U H s) (E:A0):Inv (X.wish E) pins U H s:=⟨I.ok.wish E,I.os,I.bare,I.base,I.loc,I.cell,I.free,I.freeC,I.pin,I.hok,I.len⟩
theorem Inv.unwish (I:Inv (X.wish E) pins U H s):Inv X pins U H s:=⟨I.ok.unwish,I.os,I.bare,I.base,I.loc,I.cell,I.free,I.freeC,I.pin,I.hok,I.len⟩
theorem SP.unwish {D:Ends} {f:Flow} {s':Shared} (h:SP (X.wish E) pins D f s'):SP X pins D f s':=by
 cases f with
 | next=>obtain⟨σ',H',I,q⟩:=h;exact⟨σ',H',I.unwish,q⟩
 | brk=>obtain⟨σ',H',I,q⟩:=h;exact⟨σ',H',I.unwish,q⟩
 | cont=>obtain⟨σ',H',I,q⟩:=h;exact⟨σ',H',I.unwish,q⟩
 | ret u=>obtain⟨v,σ',H',I,r,q⟩:=h;exact⟨v,σ',H',I.unwish,r,q⟩
theorem PSs.nox {st:List Stmt} {t:TS} (h:PSs X.nox st t):PSs X st t:=λpins s U H D I hw =>
 XM (h pins s U H D (I.wish _) hw) (λ_ _ q=>q.unwish) λ_ _ z=>False.elim z
end
section
variable {X:Cx} {st:Stmt} {rest:List Stmt} {t u:TS} {e:Expr} {te:TE} {pos:Pos}
def u8:TS:=λD U H=>D.nx U H
def tN (t u:TS):TS:=λD U H=>t { D with nx:=u D } U H
theorem pss_nil:PSs X [] u8:=λ_ _ U H _ I h=>wpAny_execs_nil ⟨U,H,I,h⟩
theorem pss_cons (h1:PS X st t) (h2:PSs X rest u):PSs X (st::rest) (tN t u):=by
 intro pins s U H D I h;refine wpAny_execs_cons (thn (h1 pins s U H { D with nx:=u D } I h) λf s1 q=>?_)
 cases f with
 | next =>
  obtain⟨σ',H',I',q⟩:=q;exact h2 pins s1 σ' H' D I' q
 | ret v=>exact q
 | brk=>exact q
 | cont=>exact q
theorem pss_one (h1:PS X st t):PSs X [st] t:=by
 intro pins s U H D I h;refine wpAny_execs_cons (thn (h1 pins s U H D I h) λf s1 q=>?_)
 cases f with
 | next=>exact wpAny_execs_nil q
 | ret v=>exact q
 | brk=>exact q
 | cont=>exact q
theorem Inv.quiet {pins:A1} {U:St} {H:Hp} {s:Shared} (I:Inv X pins U H s):interactive X.env=false:=by simp[interactive,I.ok.kind]
def u9 (te:TE):TS:=λD U H=>te U H λ_ H1=>D.nx U H1
theorem bH (he:PE X e te) (hs:swapsWith e none pos.line X.env=pure false:=by rfl):PS X (.Expr e pos) (u9 te):=by
 intro pins s U H D I h;exact wpAny_Expr_any (thn (he pins s U H _ I h) λv s1 ⟨x,H1,I1,r1,q1⟩=>⟨U,H1,I1,q1⟩) I.quiet hs
def wZ (te:TE):TS:=λD U H=>te U H D.rt
theorem aU (he:PE X e te):PS X (.Return (some e) pos) (wZ te):=by
 intro pins s U H D I h;exact wpAny_Return_some (thn (he pins s U H _ I h) λv s1 ⟨x,H1,I1,r1,q1⟩=>⟨x,U,H1,I1,r1,q1⟩)
def xa (c:TT) (t u:TS):TS:=λD U H=>c U H λb H1=>if b=true then t D U H1 else u D U H1
theorem ps_if {c:Expr} {a b:List Stmt} {tc:TT} (hc:PT X c tc) (ha:PSs X a t) (hb:PSs X b u):PS X (.If c a b pos) (xa tc t u):=by
 intro pins s U H D I h;refine wpAny_If (thn (hc pins s U H _ I h) λd s1 ⟨H1,I1,q1⟩=>?_)
 cases d with
 | true=>exact ha pins s1 U H1 D I1 q1
 | false=>exact hb pins s1 U H1 D I1 q1
end
abbrev TG:=V->St->Hp->(St->Hp->Prop)->Prop
abbrev TGs:=List V->St->Hp->(St->Hp->Prop)->Prop
def PG (X:Cx) (target:Expr) (t:TG):Prop :=
 ∀(pins:A1) (s:Shared) (U:St) (H:Hp) (v:V) (u:Value) (Q:St->Hp->Prop),Inv X pins U H s->aI v u->t v U H Q ->
  wpAny (model X.prog X.w) X.A (assign target X.env u) (λ_ s'=>∃σ' H',Inv X pins σ' H' s'/\Q σ' H') X.xe s
def PGs (X:Cx) (ts:List Expr) (t:TGs):Prop :=
 ∀(pins:A1) (s:Shared) (U:St) (H:Hp) (vs:List V) (us:List Value) (Q:St->Hp->Prop),Inv X pins U H s->aO vs us->t vs U H Q ->
  wpAny (model X.prog X.w) X.A (assignInOrder ((assignEach ts X.env).map (·.2)) us) (λ_ s'=>∃σ' H',Inv X pins σ' H' s'/\Q σ' H') X.xe s
abbrev uW:=V->V->V->Hp->(Hp->Prop)->Prop
def yi (X:Cx) (t:uW):Prop :=
 ∀(pins:A1) (s:Shared) (U:St) (H:Hp) (o i v:V) (ov iv u:Value) (Q:Hp->Prop),Inv X pins U H s->aI o ov->aI i iv->aI v u->t o i v H Q ->
  wpAny (model X.prog X.w) X.A (setItem ov iv u) (λ_ s'=>∃H',Inv X pins U H' s'/\Q H') X.xe s
abbrev TIp:=V->V->Hp->VK->Prop
def PIp (X:Cx) (op:Operator) (t:TIp):Prop :=
 ∀(pins:A1) (s:Shared) (U:St) (H:Hp) (x y:V) (v u:Value) (Q:VK),Inv X pins U H s->aI x v->aI y u->t x y H Q ->
  wpAny (model X.prog X.w) X.A (inplaceOp op v u) (EP X pins U Q) X.xe s
section
variable {X:Cx} {pos:Pos}
def dv (i:Nat):TG:=λv U H Q=>Q (U.set i (some v)) H
variable {x:Str}
theorem ba {i:Nat} (hN:X.N.Nodup) (hi:X.N[i]?=some x) (hx:Loc X.env.scope x) (hf:X.fn x=true\/X.env.scope.names.lookup x=some .local:=by z_go):PG X (.Name x pos) (dv i):=by
 intro pins s U H v u Q I r h;exact wpAny_assign_Name (gy I hN hi hx r (λs' I'=>⟨_,H,I',h⟩) hf)
theorem bv (i:Nat) (hN:X.N.Nodup) (hi:X.N[i]?=some x:=by rfl) (hx:Loc X.env.scope x:=by z_go) (hf:X.fn x=true\/X.env.scope.names.lookup x=some .local:=by z_go):PG X (.Name x pos) (dv i):=ba hN hi hx hf
def yx:TGs:=λvs U H Q=>vs=[]/\Q U H
def yb (t:TG) (u:TGs):TGs:=λvs U H Q=>∃v r,vs=v::r/\t v U H λσ' H'=>u r σ' H' Q
theorem bI:PGs X [] yx:=by
 intro pins s U H vs us Q I r h;obtain⟨e,h⟩:=h;subst e;cases r;exact assignInOrder_nil ⟨U,H,I,h⟩
variable {e o i tg:Expr}
theorem aB {es:List Expr} {t:TG} {u:TGs} (h1:PG X e t) (h2:PGs X es u)
  (hs:(assignEach (e::es) X.env).map (·.2)=assign e X.env::(assignEach es X.env).map (·.2):=by rfl):PGs X (e::es) (yb t u):=by
 intro pins s U H vs us Q I r h;obtain⟨v,vr,e1,h⟩:=h;subst e1
 cases r with
 | cons r rr =>
 rw[hs];refine assignInOrder_cons (thn (h1 pins s U H _ _ _ I r h) λ_ s1 ⟨σ1,H1,I1,q1⟩=>?_);exact h2 pins s1 σ1 H1 _ _ Q I1 rr q1
def x_ (K:PySem.W.Frag) (n:Nat) (t:TGs):TG:=λv U H Q=>∃a xs,v=.ref a/\SqT K H a xs/\xs.length=n/\t xs U H Q
theorem d5 {es:List Expr} {k:Nat} {t:TGs} {n:Nat} (hc:X.calm=true) (h:PGs X es t)
  (hn:(assignEach es X.env).length=n:=by rfl) (hst:(assignEach es X.env).findIdx? (·.1)=none:=by rfl):PG X (.Tuple es k pos) (x_ X.K n t):=by
 intro pins s U H v u Q I r hw;obtain⟨a,xs,e1,hq,hl,hw⟩:=hw;subst e1;cases r;obtain⟨its,rv,ht,hz⟩:=I.tuple hq;refine assign_Tuple_tuple (I.ok.hd hc) ht (by simp[hn,<-hl,rv.length]) hst λh' hx=>?_;have I1:Inv X pins U H { s with heap:=h' }:=I.kept (t':=s.toks) λb o e=>hx b o (QC (Qp e)) e;exact h pins _ U H xs _ Q I1 (by simpa using rv) hw
def ya (to ti:TE) (t:uW):TG:=λv U H Q=>to U H λo H1=>ti U H1 λi H2=>t o i v H2 λH3=>Q U H3
variable {to te:TE}
theorem rq {ti:TE} {t:uW} (ho:PE X o to) (hi:PE X i ti) (hs:yi X t)
  (ha:∀v,assign (.Subscript o i pos) X.env v=(do
   let ov <-holding [v] (eval o X.env);let iv <-holding [v,ov] (eval i X.env)
   standAt pos
   holding [v,ov,iv] (setItem ov iv v)
   release [v,ov,iv] []):=by intro _;rfl):PG X (.Subscript o i pos) (ya to ti t):=by
 intro pins s U H v u Q I r h;rw[ha];refine Qa (Q9 (thn (ho pins s U H _ I h) λov s1 ⟨x,H1,I1,r1,q1⟩=>?_));refine Qa (Q9 (thn (hi pins s1 U H1 _ I1 q1) λiv s2 ⟨y,H2,I2,r2,q2⟩=>?_));refine Qa (wpAny_standAt (Qa (Q9 (thn (hs pins s2 U H2 x y v ov iv u _ I2 r1 r2 r q2) λ_ s3 ⟨H3,I3,q3⟩=>?_))));exact wpAny_release ⟨U,H3,I3,q3⟩
def qG (te:TE) (g:TG):TS:=λD U H=>te U H λx H1=>g x U H1 D.nx
theorem jz {g:TG} (he:PE X e te) (hg:PG X tg g) (hs:swapsWithSole [tg] e pos.line X.env=pure false:=by rfl) (hw:swappedStores [tg] e X.env=pure none:=by rfl)
  (h1:(assignEach [tg] X.env).map (·.2)=[assign tg X.env]:=by rfl):PS X (.Assign [tg] e pos) (qG te g):=by
 intro pins s U H D I h;refine wpAny_Assign_stores (thn (he pins s U H _ I h) λv s1 ⟨x,H1,I1,r1,q1⟩=>?_) hs hw;rw[h1];exact thn (hg pins s1 U H1 x v _ I1 r1 q1) λ_ s2 q=>q
variable {pos':Pos}
theorem rj {i:Nat} (hN:X.N.Nodup) (hi:X.N[i]?=some x) (hx:Loc X.env.scope x) (he:PE X e te) (hs:swapsWith e (some (.Name x pos')) pos.line X.env=pure false:=by rfl) (hf:X.fn x=true\/X.env.scope.names.lookup x=some .local:=by z_go) :
  PS X (.Assign [.Name x pos'] e pos) (qG te (dv i)):=by
 intro pins s U H D I h;refine wpAny_Assign_Name (thn (he pins s U H _ I h) λv s1 ⟨y,H1,I1,r1,q1⟩=>?_) hs;exact gy I1 hN hi hx r1 (λs2 I2=>⟨_,H1,I2,q1⟩) hf
theorem ay (i:Nat) (hN:X.N.Nodup) (he:PE X e te) (hi:X.N[i]?=some x:=by rfl) (hx:Loc X.env.scope x:=by z_go) (hs:swapsWith e (some (.Name x pos')) pos.line X.env=pure false:=by rfl) (hf:X.fn x=true\/X.env.scope.names.lookup x=some .local:=by z_go):PS X (.Assign [.Name x pos'] e pos) (qG te (dv i)):=rj hN hi hx he hs hf
def yo (i:Nat) (te:TE) (ti:TIp):TS:=λD U H=>∃x,U[i]?=some (some x)/\te U H λy H1=>ti x y H1 λz H2=>D.nx (U.set i (some z)) H2
theorem v8 {i:Nat} {op:Operator} {ti:TIp} (hN:X.N.Nodup) (hi:X.N[i]?=some x) (hx:Loc X.env.scope x) (he:PE X e te) (ho:PIp X op ti) (hf:X.fn x=true\/X.env.scope.names.lookup x=some .local:=by z_go) :
  PS X (.AugAssign (.Name x pos') op e pos) (yo i te ti):=by
 intro pins s U H D I h;obtain⟨v,e1,h⟩:=h;obtain⟨m,hn,hl⟩:=I.loc;have vis:Vis X.env.scope x:=by rcases hx with k|k;exact .inl k;exact .inr (.inl k)
 obtain⟨u,r,l⟩:=hl i x v hi e1 vis;refine wpAny_AugAssign_Name ?_
 have go:wpAny (model X.prog X.w) X.A (eval e X.env) (λw s₂=>wpAny (model X.prog X.w) X.A (inplaceOp op u w) (λr s₃=>wpAny (model X.prog X.w) X.A (storeName X.env x r) (λ_=>SP X pins D .next) X.xe s₃) X.xe s₂) X.xe s:=by
  refine thn (he pins s U H _ I h) λw s1 ⟨y,H1,I1,r1,q1⟩=>?_;refine thn (ho pins s1 U H1 v y u w _ I1 r r1 q1) λz s2 ⟨zv,H2,I2,r2,q2⟩=>?_;exact gy I2 hN hi hx r2 (λs3 I3=>⟨_,H2,I3,q2⟩) hf
 rcases l with⟨hk,hm⟩|⟨hk,c,hc,hcell⟩
 ·exact wpAny_loadName_local I.ok.kind hk hn hm go
 rcases hk with hk|hk
 ·exact wpAny_loadName_cell I.ok.kind hk hc hcell go
 rcases hx with k|k
 ·have:X.env.scope.names.lookup x=some .free:=hk;rw[k]at this;cases this
 have:X.env.scope.names.lookup x=some .free:=hk;rw[k]at this;cases this
def ipI (f:Int->Int->Int):TIp:=λx y H Q=>∃i j,x=.int i/\y=.int j/\Q (.int (f i j)) H
theorem wE:PIp X .Add (ipI λi j=>i+j):=by
 intro pins s U H x y v u Q I r1 r2 h;obtain⟨i,j,e1,e2,q⟩:=h;subst e1;subst e2;obtain⟨t,rfl⟩:=r1;obtain⟨t',rfl⟩:=r2;exact iadd_int ⟨.int _,H,I.tok _,⟨_,rfl⟩,q⟩
end
section
variable {X:Cx} {pos:Pos}
def vO (c:TT) (tb:TS):TS:=λD U H=>∃W:Nat->St->Hp->Prop,(∃m,W m U H)/\∀m U H,W m U H ->
 c U H λb H1=>if b=true then ∃N:St->Hp->Prop,(∀σ' H',N σ' H'->∃m',m'<m/\W m' σ' H')/\tb { D with nx:=N,ct:=N,bk:=D.nx } U H1 else D.nx U H1
theorem dZ {c:Expr} {body:List Stmt} {tc:TT} {tb:TS} (hp:PassesOwn (model X.prog X.w) X.A X.env X.xe) (hc:PT X c tc) (hb:PSs X body tb):PS X (.While c body [] pos) (vO tc tb):=by
 intro pins s U H D I h;obtain⟨W,⟨m0,w0⟩,turn⟩:=h;refine wpAny_While (codeAny_whileLoop (λn s'=>∃σ' H',Inv X pins σ' H' s'/\W n σ' H') ?_ m0 ⟨U,H,I,w0⟩);rintro n s1 ⟨σ1,H1,I1,w1⟩;refine wpAny_passesOwn hp (thn (hc pins s1 σ1 H1 _ I1 (turn n σ1 H1 w1)) λb s2 ⟨H2,I2,q2⟩=>?_)
 cases b with
 | true =>
  obtain⟨N,hN,q2⟩:=q2;rw[Qt rfl];refine wpAny_passesOwn hp (thn (hb pins s2 σ1 H2 _ I2 q2) λf s3 q3=>?_)
  cases f with
  | next =>
   obtain⟨σ3,H3,I3,n3⟩:=q3;obtain⟨m',hm,w3⟩:=hN σ3 H3 n3;exact⟨m',hm,σ3,H3,I3,w3⟩
  | cont =>
   obtain⟨σ3,H3,I3,n3⟩:=q3;obtain⟨m',hm,w3⟩:=hN σ3 H3 n3;exact⟨m',hm,σ3,H3,I3,w3⟩
  | brk=>exact q3
  | ret v=>exact q3
 | false =>
 rw[Qr Qm];exact wpAny_execs_nil ⟨σ1,H2,I2,q2⟩
end
structure It where
 go:Nat->Hp->Prop
 yld:Nat->Hp->V->Hp->Prop
 stop:Nat->Hp->Prop
def eB (X:Cx) (pins:A1) (H:Hp) (b:Addr):Prop :=
 H b=none/\b≠X.env.locals/\b∉X.fs/\(b∈X.ex\/X.s₀.heap.objs.size<=b)/\(∀x c,X.env.cells.lookup x=some c->c≠b)/\∀p∈X.pn++pins,p.1≠b
theorem Inv.fpOk {pins:A1} {U:St} (I:Inv X pins U H s) (hb:s.heap.objs.size<=b) (hn:H' b=none):eB X pins H' b:=by
 refine⟨hn,Nat.ne_of_gt (QL I.lt hb),I.nofs hb,.inr (QG I.sz hb),λx c e z=>?_,λp hp z=>?_⟩
 ·obtain⟨v,q⟩:=I.cell x c e;exact absurd (QL q.lt (by rw[z];exact hb)) (XV _)
 exact absurd (QL (Qp (I.pin p hp).1) (by rw[z];exact hb)) (XV _)
structure Turn (P:Program) (w:World) (K:PySem.W.Frag) (tg:Expr) (J:It) (fp:A3) (it:Addr) (tn:Nat->Heap->Prop):Prop where
 mem:it∈fp
 obj:∀i h,tn i h->∀b∈fp,∃o,h.get? b=some o/\∀v,o.data≠.cell v
 keep:∀i h h',tn i h->(∀b∈fp,∀o,h.get? b=some o->h'.get? b=some o)->tn i h'
 item:∀(X:Cx),X.prog=P->X.w=w->X.K=K->X.calm=true->∀(i:Nat) (pins:A1) (s:Shared) (U:St) (H:Hp) (E:A0),Inv X pins U H s->(∀b∈fp,eB X pins H b)->tn i s.heap->J.go i H ->
  wpAny (model P w) X.A (pyNext (.ref it)) (λr s1=>∃u,r=some u /\
   wpAny (model P w) X.A (letOwnedTupleGo tg (.ref it) u) (λ_ s2=>∃x H',Inv X pins U H' s2/\aI x u/\J.yld i H x H'/\tn (i+1) s2.heap/\∀b∈fp,H' b=none) E s1) E s
 done:∀(X:Cx),X.prog=P->X.w=w->X.K=K->X.calm=true->∀(i:Nat) (pins:A1) (s:Shared) (U:St) (H:Hp) (E:A0),Inv X pins U H s->(∀b∈fp,eB X pins H b)->tn i s.heap->J.stop i H ->
  wpAny (model P w) X.A (pyNext (.ref it)) (λr s1=>r=none/\Inv X pins U H s1) E s
 self:∀(A:Around) (i:Nat) (s:Shared) (Q:A0) (E:A0),tn i s.heap->Q (.ref it) s->wpAny (model P w) A (pyIter (.ref it)) Q E s
abbrev TI:=St->Hp->(It->Hp->Prop)->Prop
def PIE (X:Cx) (pins:A1) (U:St) (tg:Expr) (R:It->Hp->Prop) (itv:Value) (s2:Shared):Prop :=
 ∃(it:Addr) (fp:A3) (tn:Nat->Heap->Prop) (J:It) (H':Hp),itv=.ref it/\Inv X pins U H' s2/\Turn X.prog X.w X.K tg J fp it tn/\tn 0 s2.heap/\(∀b∈fp,eB X pins H' b)/\R J H'
def PI (X:Cx) (tg iter:Expr) (wi:TI):Prop :=
 ∀(pins:A1) (s:Shared) (U:St) (H:Hp) (R:It->Hp->Prop),Inv X pins U H s->wi U H R ->
  wpAny (model X.prog X.w) X.A (eval iter X.env) (λv s1=>wpAny (model X.prog X.w) X.A (pyIter v) (PIE X pins U tg R) X.xe s1) X.xe s
theorem oO {M:Model} {s:Shared} {o:Obj} {n:String} {vs:Array Value} {Q:Unit->Shared->Prop} (ho:s.heap.get? it=some o) (hc:o.cls=.type n) (hd:o.data=.fields vs)
  (hn:["enumerate", "zip", "dict_itemiterator", "dict_reverseitemiterator", "odict_iterator", "itertools.zip_longest", "itertools.pairwise"].contains n=false) (hQ:Q () s):wpAny M A (letOwnedTupleGo tg (.ref it) u) Q E s:=by
 unfold letOwnedTupleGo
 cases tg <;> first
  | exact Qf hQ
  | (cases u <;> first
    | exact Qf hQ
    |(refine Qa (wpAny_load ho ?_)
      rw[hc,hd];show wpAny M A (if (["enumerate", "zip", "dict_itemiterator", "dict_reverseitemiterator", "odict_iterator", "itertools.zip_longest", "itertools.pairwise"].contains n&&vs[0]?==some (rawInt _))=true then _ else _) Q E s;rw[Qr (by intro h;rw[hn,Bool.false_and]at h;cases h)]
      exact Qf hQ))
def Itl (K:PySem.W.Frag) (a:Addr):It :=
 ⟨λi H=>∃xs x,SqL K H a xs/\xs[i]?=some x,λi H x H'=>H'=H/\∀xs,SqL K H a xs->xs[i]?=some x,λi H=>∃xs,SqL K H a xs/\xs.length<=i⟩
def Itr (lo:Int) (n:Nat):It:=⟨λi _=>i<n,λi H x H'=>H'=H/\x=.int (lo+i),λi _=>n<=i⟩
theorem turn_list {P:Program} {w:World} {K:PySem.W.Frag} (a it:Addr):Turn P w K tg (Itl K a) [it] it (λi h=>h.IsListIter it a i) where
 mem:=by simp
 obj:=λi h st b hb=>by
  have e:b=it:=by simpa using hb
  subst e;obtain⟨o,e,c,d⟩:=st;exact⟨o,e,λv z=>by rw[d]at z;cases z⟩
 keep:=λi h h' st k=>st.at λo e=>k it (by simp) o e
 item:=by
  intro X hP hw hK hc i pins s U H E I hf st hg;subst hP hw hK;obtain⟨xs,x,hq,hx⟩:=hg;obtain⟨its,rv,p,hz⟩:=I.list hq;obtain⟨u,hu,ru⟩:=rv.get hx;obtain⟨f0,f1,f2,f3,f4,f5⟩:=hf it (by simp);refine wpAny_pyNext_list_item st p.isList (x:=u) (by simpa using hu) λh' st' sb=>?_;have I1:Inv X pins U H { s with heap:=h' }:=I.turned (t':=s.toks) (λb o hb e=>(sb.2 b hb).trans e) f0 f1 f3 f4 f5;obtain⟨o,e,c,d⟩:=id st';exact⟨u,rfl,oO (s:={ s with heap:=h' }) e c d (by decide) ⟨x,H,I1,ru,⟨rfl,λys hy=>by rw[I.list_inj hy hq];exact hx⟩,st',λb hb=>(hf b hb).1⟩⟩
 done:=by
  intro X hP hw hK hc i pins s U H E I hf st hg;subst hP hw hK;obtain⟨xs,hq,hx⟩:=hg;obtain⟨its,rv,p,hz⟩:=I.list hq;obtain⟨f0,f1,f2,f3,f4,f5⟩:=hf it (by simp);have hl:=rv.length;exact wpAny_pyNext_list_end (I.ok.hd hc) st p.isList (by simp;omega) λh' eb=>⟨rfl,I.turned (t':=s.toks) (λb o hb e=>eb b o hb e) f0 f1 f3 f4 f5⟩
 self:=λ_ _ _ _ _ st h=>wpAny_pyIter_listiter st h
theorem l_ {P:Program} {w:World} {K:PySem.W.Frag} (it:Addr) (lo:Int) (n:Nat):Turn P w K tg (Itr lo n) [it] it (λi h=>IsRangeIter h it (lo+(i:Nat)*1) ((n:Int)-(i:Nat)) 1) where
 mem:=by simp
 obj:=λi h st b hb=>by
  have e:b=it:=by simpa using hb
  subst e
  exact⟨_,st,λv z=>by
   have z':Data.fields _=Data.cell v:=z
   cases z'⟩
 keep:=λi h h' st k=>k it (by simp) _ st
 item:=by
  intro X hP hw hK hc i pins s U H E I hf st hg;subst hP hw hK;obtain⟨f0,f1,f2,f3,f4,f5⟩:=hf it (by simp);have W:=Walks.range (prog:=X.prog) (w:=X.w) (I.ok.hd hc) it lo 1 n;refine W.item i s _ _ hg st λv h' tk hv st' kk=>?_;obtain⟨t,rfl⟩:=hv;have I1:Inv X pins U H { s with heap:=h',toks:=tk }:=I.turned (λb o hb e=>kk b o (by simpa using hb) e) f0 f1 f3 f4 f5;refine⟨_,rfl,oO (s:={ s with heap:=h',toks:=tk }) (n := "range_iterator") st' rfl rfl (by decide) ⟨.int (lo+i),H,I1,⟨t,?_⟩,⟨rfl,rfl⟩,st',λb hb=>(hf b hb).1⟩⟩;rw[Int.mul_one]
 done:=by
  intro X hP hw hK hc i pins s U H E I hf st hg;subst hP hw hK;obtain⟨f0,f1,f2,f3,f4,f5⟩:=hf it (by simp);exact wpAny_pyNext_range_end (I.ok.hd hc) st (by have:n<=i:=hg;omega) λh' eb=>⟨rfl,I.turned (t':=s.toks) (λb o hb e=>eb b o hb e) f0 f1 f3 f4 f5⟩
 self:=λ_ _ _ _ _ st h=>wpAny_pyIter_rangeiter st h
section
variable {X:Cx} {tg:Expr}
def lE (K:PySem.W.Frag) (tl:TE):TI:=λU H R=>tl U H λx H1=>∃a,x=.ref a/\(∃xs,SqL K H1 a xs)/\R (Itl K a) H1
theorem a_ {l:Expr} {tl:TE} (hl:PE X l tl):PI X tg l (lE X.K tl):=by
 intro pins s U H R I h;refine thn (hl pins s U H _ I h) λv s1 ⟨x,H1,I1,r1,q1⟩=>?_;obtain⟨a,e,⟨xs,hq⟩,q⟩:=q1;subst e;cases r1;obtain⟨its,rv,p,hz⟩:=I1.list hq;refine wpAny_pyIter_list p.isList ?_;refine⟨s1.heap.objs.size,[s1.heap.objs.size],_,_,H1,rfl,I1.kept (t':=s1.toks) λb o e=>Qb _ e,turn_list a _,⟨_,Qq _ rfl,rfl,rfl⟩,λb hb=>?_,q⟩;have e:b=s1.heap.objs.size:=by simpa using hb
 subst e;exact I1.fpOk (Qg _) (I1.hok.fresh (Qg _))
variable {s:Shared} {pins pl:A1}
theorem q_ {U:St} {H:Hp} {R:It->Hp->Prop} {E:A0} {lo hi:Int} {t u v:Tok} {tk:Nat} (I:Inv X pins U H s) (h1:-(2 ^ 62)<=lo) (h2:lo<2 ^ 62) (h3:-(2 ^ 62)<=hi) (h4:hi<2 ^ 62)
  (q:R (Itr lo (hi-lo).toNat) H):wpAny (model X.prog X.w) X.A (pyIter (.ref s.heap.objs.size)) (PIE X pins U tg R) E { s with heap:=s.heap.push { cls:=.type "range", data:=.fields #[.int lo t,.int hi u,.int 1 v] },toks:=tk }:=by
 refine wpAny_pyIter_range (IsRange.new ..) (small_one h1 h2 h3 h4) ?_;have I1:Inv X pins U H { s with heap:=s.heap.push { cls:=.type "range", data:=.fields #[.int lo t,.int hi u,.int 1 v] },toks:=tk }:=I.kept λb o e=>Qb _ e
 refine⟨(s.heap.push { cls:=.type "range", data:=.fields #[.int lo t,.int hi u,.int 1 v] }).objs.size,[(s.heap.push { cls:=.type "range", data:=.fields #[.int lo t,.int hi u,.int 1 v] }).objs.size],_,_,H,rfl,
  I1.kept (t':=tk) λb o e=>Qb _ e,l_ _ lo (hi-lo).toNat,?_,λb hb=>?_,q⟩
 ·have e1:lo+((0:Nat):Int)*1=lo:=by simp
  have e2:(((hi-lo).toNat:Nat):Int)-((0:Nat):Int)=Builtin.Range.rangeSize lo hi 1:=by rw[rangeSize_one];split <;> omega
  show IsRangeIter _ _ (lo+((0:Nat):Int)*1) ((((hi-lo).toNat:Nat):Int)-((0:Nat):Int)) 1;rw[e1,e2];exact Qq _ rfl
 have e:b=(s.heap.push { cls:=.type "range", data:=.fields #[.int lo t,.int hi u,.int 1 v] }).objs.size:=by simpa using hb
 subst e;exact I1.fpOk (Qg _) (I1.hok.fresh (Qg _))
def vA (ta:TA):TI:=λU H R=>ta U H λvs H1=>∃j:Int,vs=[.int j]/\-(2 ^ 62)<=j/\j<2 ^ 62/\R (Itr 0 j.toNat) H1
theorem cB {a:Expr} {ta:TA} {p pos:Pos} (hg:Gl X "range") (hm:X.mg "range" = none) (ha:PA X [a] ta) (hs:starEach [a] X.env=[(false,eval a X.env)]:=by rfl):PI X tg (.Call (.Name "range" p) [a] [] pos) (vA ta):=by
 intro pins s U H R I h;refine Call_ (d8 I hg hm boot_range (XC (thn (ha pos pins s U H _ I h) λus s1 ⟨vs,H1,I1,r1,q1⟩=>?_) hs rfl));obtain⟨j,e,q1,q2,q⟩:=q1;subst e
 cases r1 with
 | cons r rr =>
 cases rr;obtain⟨t,rfl⟩:=r;exact call_range_1 (q_ I1 (by omega) (by omega) q1 q2 (by simpa using q))
def xf (wi:TI) (g:TG) (tb:TS):TS:=λD U H=>wi U H λJ H1=>∃W:Nat->Nat->St->Hp->Prop,(∃m,W 0 m U H1)/\∀i m U H,W i m U H ->
 (J.stop i H/\D.nx U H)\/(J.go i H/\∃N:St->Hp->Prop,(∀σ' H',N σ' H'->∃m',m'<m/\W (i+1) m' σ' H')/\∀x H',J.yld i H x H'->g x U H' λσ2 H2=>tb { D with nx:=N,ct:=N,bk:=D.nx } σ2 H2)
def fN (fp:A3) (h:Heap):A1:=fp.filterMap λb=>(h.get? b).map λo=>(b,o)
variable {fp:A3}
theorem cE {h:Heap} {b:Addr} {o:Obj} (hb:b∈fp) (e:h.get? b=some o):(b,o)∈fN fp h:=List.mem_filterMap.mpr ⟨b,hb,by rw[e];rfl⟩
theorem pK {h:Heap} {p:Addr × Obj} (hp:p∈fN fp h):p.1∈fp/\h.get? p.1=some p.2:=by
 obtain⟨b,hb,e⟩:=List.mem_filterMap.mp hp
 cases q:h.get? b with
 | none=>rw[q]at e;cases e
 | some o =>
 rw[q]at e;have e':(b,o)=p:=QJ e;subst e';exact⟨hb,q⟩
theorem Inv.pinned {U:St} {H:Hp} (I:Inv X pins U H s) (hf:∀b∈fp,eB X pins H b) (ho:∀b∈fp,∃o,s.heap.get? b=some o/\∀v,o.data≠.cell v):Inv X (pins++fN fp s.heap) U H s :=
 I.pins_of λp hp=>(Qw.mp hp).elim (λz=>I.pin p (QF _ z)) λz=>by
  obtain⟨hb,e⟩:=pK z;obtain⟨f0,f1,f2,_⟩:=hf p.1 hb;obtain⟨o,e',d⟩:=ho p.1 hb;rw[e]at e';cases e';exact⟨e,f0,f1,f2,d⟩
theorem Inv.unpinned {U:St} {H:Hp} (I:Inv X (pins++pl) U H s):Inv X pins U H s:=I.pins_of λp hp=>I.pin p (QF _ (Q6 _ hp))
theorem ps_for {iter:Expr} {body:List Stmt} {wi:TI} {g:TG} {tb:TS} {pos:Pos} (hp:PassesOwn (model X.prog X.w) X.A X.env X.xe) (hc:X.calm=true) (hi:PI X tg iter wi) (hg:PG X tg g) (hb:PSs X body tb)
  (hs:∀x,foldedSetIterable iter X.env x=pure x:=by intro _;rfl):PS X (.For tg iter body [] pos) (xf wi g tb):=by
 intro pins s U H D I h;refine wpAny_For (thn (hi pins s U H _ I h) λv s1 h1=>thn h1 λitv s2 h2=>?_) hs;obtain⟨it,fp,tn,J,H2,e,I2,T,st2,f2,W,⟨m0,w0⟩,turn⟩:=h2;subst e
 -- what stays true of the iterator's objects through the loop
 have stat:∀{H':Hp},(∀b∈fp,H' b=none)->∀b∈fp,eB X pins H' b:=λhn b hb=>⟨hn b hb,(f2 b hb).2⟩;refine codeAny_forLoop_any (λn s'=>∃i σ' H',Inv X pins σ' H' s'/\tn i s'.heap/\(∀b∈fp,H' b=none)/\W i n σ' H') ?_ m0 ⟨0,U,H2,I2,st2,λb hb=>(f2 b hb).1,w0⟩;rintro n s3 ⟨i,σ3,H3,I3,st3,fr3,w3⟩;rcases turn i n σ3 H3 w3 with⟨stop,qn⟩|⟨go,N,hN,step⟩
 ·refine wpAny_passesOwn hp (thn (T.done X rfl rfl rfl hc i pins s3 σ3 H3 X.xe I3 (stat fr3) st3 stop) λr s4 ⟨hr,I4⟩=>?_);subst hr;exact wpAny_execs_nil ⟨σ3,H3,I4,qn⟩
 refine wpAny_passesOwn hp (thn (T.item X rfl rfl rfl hc i pins s3 σ3 H3 X.xe I3 (stat fr3) st3 go) λr s4 ⟨u,hr,h4⟩=>?_);subst hr;refine wpAny_passesOwn hp (thn h4 λ_ s5 ⟨x,H5,I5,r5,y5,st5,fr5⟩=>?_);have I5':=I5.pinned (stat fr5) (T.obj _ _ st5);refine wpAny_passesOwn hp (thn (hg _ s5 σ3 H5 x u _ I5' r5 (step x H5 y5)) λ_ s6 ⟨σ6,H6,I6,q6⟩=>?_);refine wpAny_passesOwn hp (thn (hb _ s6 σ6 H6 _ I6 q6) λf s7 q7=>?_)
 have again:∀{σ7:St} {H7:Hp},Inv X (pins++fN fp s5.heap) σ7 H7 s7->N σ7 H7->∃m,m<n/\∃i σ' H',Inv X pins σ' H' s7/\tn i s7.heap/\(∀b∈fp,H' b=none)/\W i m σ' H':=λ{σ7 H7} I7 n7=>by
  obtain⟨m',hm,w7⟩:=hN σ7 H7 n7;refine⟨m',hm,i+1,σ7,H7,I7.unpinned,T.keep _ _ _ st5 λb hb o e=>(I7.pin (b,o) (QF _ (QF _ (cE hb e)))).1,λb hb=>?_,w7⟩;obtain⟨o,e,d⟩:=T.obj _ _ st5 b hb;exact(I7.pin (b,o) (QF _ (QF _ (cE hb e)))).2.1
 cases f with
 | next=>obtain⟨σ7,H7,I7,n7⟩:=q7;exact again I7 n7
 | cont=>obtain⟨σ7,H7,I7,n7⟩:=q7;exact again I7 n7
 | brk=>obtain⟨σ7,H7,I7,q7⟩:=q7;exact⟨σ7,H7,I7.unpinned,q7⟩
 | ret v=>obtain⟨x7,σ7,H7,I7,r7,q7⟩:=q7;exact⟨x7,σ7,H7,I7.unpinned,r7,q7⟩
end
theorem cZ {K:PySem.W.Frag} {xs:List V} {g:TG} {tb:TS} {D:Ends} {U:St} (Pv:Nat->St->Hp->Prop) (h0:Pv 0 U H) (hl:∀i U H,i<=xs.length->Pv i U H->SqL K H a xs)
  (hs:∀i x U H,xs[i]?=some x->Pv i U H->g x U H λσ2 H2=>tb { D with nx:=Pv (i+1),ct:=Pv (i+1),bk:=D.nx } σ2 H2) (hd:∀U H,Pv xs.length U H->D.nx U H) :
  ∃W:Nat->Nat->St->Hp->Prop,(∃m,W 0 m U H)/\∀i m U H,W i m U H ->
   ((Itl K a).stop i H/\D.nx U H)\/((Itl K a).go i H/\∃N:St->Hp->Prop,(∀σ' H',N σ' H'->∃m',m'<m/\W (i+1) m' σ' H')/\∀x H',(Itl K a).yld i H x H'->g x U H' λσ2 H2=>tb { D with nx:=N,ct:=N,bk:=D.nx } σ2 H2):=by
 refine⟨λi m U H=>m=xs.length-i/\i<=xs.length/\Pv i U H,⟨xs.length,by simp,QP _,h0⟩,?_⟩;rintro i m U H ⟨rfl,hi,p⟩;have q:=hl i U H hi p;by_cases hlt:i<xs.length
 ·refine .inr ⟨⟨xs,xs[i],q,by simp[hlt]⟩,Pv (i+1),λσ' H' p'=>⟨xs.length-(i+1),by omega,rfl,hlt,p'⟩,λx H' y=>?_⟩;obtain⟨e,y⟩:=y;subst e;exact hs i x U _ (y xs q) p
 have e:i=xs.length:=by omega
 subst e;exact .inl ⟨⟨xs,q,Qg _⟩,hd U H p⟩
theorem dw {lo:Int} {n:Nat} {g:TG} {tb:TS} {D:Ends} {U:St} (Pv:Nat->St->Hp->Prop) (h0:Pv 0 U H)
  (hs:∀i U H,i<n->Pv i U H->g (.int (lo+i)) U H λσ2 H2=>tb { D with nx:=Pv (i+1),ct:=Pv (i+1),bk:=D.nx } σ2 H2) (hd:∀U H,Pv n U H->D.nx U H) :
  ∃W:Nat->Nat->St->Hp->Prop,(∃m,W 0 m U H)/\∀i m U H,W i m U H ->
   ((Itr lo n).stop i H/\D.nx U H)\/((Itr lo n).go i H/\∃N:St->Hp->Prop,(∀σ' H',N σ' H'->∃m',m'<m/\W (i+1) m' σ' H')/\∀x H',(Itr lo n).yld i H x H'->g x U H' λσ2 H2=>tb { D with nx:=N,ct:=N,bk:=D.nx } σ2 H2):=by
 refine⟨λi m U H=>m=n-i/\i<=n/\Pv i U H,⟨n,by simp,QP _,h0⟩,?_⟩;rintro i m U H ⟨rfl,hi,p⟩;by_cases hlt:i<n
 ·refine .inr ⟨hlt,Pv (i+1),λσ' H' p'=>⟨n-(i+1),by omega,rfl,hlt,p'⟩,λx H' y=>?_⟩;obtain⟨e,y⟩:=y;subst e y;exact hs i U _ hlt p
 have e:i=n:=by omega
 subst e;exact .inl ⟨Qg _,hd U H p⟩
abbrev R2:=V->V->Hp->VK->Prop
def OpR (X:Cx) (f:Value->Value->Sem Value) (r:R2):Prop :=
 ∀(pins:A1) (s:Shared) (U:St) (H:Hp) (x y:V) (v u:Value) (Q:VK),Inv X pins U H s->aI x v->aI y u->r x y H Q ->
  wpAny (model X.prog X.w) X.A (f v u) (EP X pins U Q) X.xe s
def UnR (X:Cx) (f:Value->Sem Value) (r:V->Hp->VK->Prop):Prop :=
 ∀(pins:A1) (s:Shared) (U:St) (H:Hp) (x:V) (v:Value) (Q:VK),Inv X pins U H s->aI x v->r x H Q ->
  wpAny (model X.prog X.w) X.A (f v) (EP X pins U Q) X.xe s
def dR (X:Cx) (f:Value) (r:List V->Hp->VK->Prop):Prop :=
 ∀(pins:A1) (s:Shared) (U:St) (H:Hp) (xs:List V) (us:List Value) (Q:VK),Inv X pins U H s->aO xs us->r xs H Q ->
  wpAny (model X.prog X.w) X.A (call f us) (EP X pins U Q) X.xe s
def tOp (r:R2) (ta tb:TE):TE:=λU H Q=>ta U H λx H1=>tb U H1 λy H2=>r x y H2 Q
def tUn (r:V->Hp->VK->Prop) (ta:TE):TE:=λU H Q=>ta U H λx H1=>r x H1 Q
def rI (C:Int->Int->Prop) (g:Int->Int->V):R2:=λx y H Q=>∃i j,x=.int i/\y=.int j/\C i j/\Q (g i j) H
def rI0 (g:Int->Int->V):R2:=λx y H Q=>∃i j,x=.int i/\y=.int j/\Q (g i j) H
def rU (g:Int->V):V->Hp->VK->Prop:=λx H Q=>∃i,x=.int i/\Q (g i) H
section
variable {X:Cx} {a b c:Expr} {ta tb tc:TE} {pos:Pos}
variable {f:Value->Value->Sem Value}
theorem wP (ha:PE X a ta) (hb:PE X b tb) {pins:A1} {s:Shared} {U:St} {H:Hp} {R:V->V->Hp->Prop} (I:Inv X pins U H s)
  (h:ta U H λx H1=>tb U H1 λy H2=>R x y H2) {Q:A0}
  (hf:∀v u s2 x y H2,Inv X pins U H2 s2->aI x v->aI y u->R x y H2->wpAny (model X.prog X.w) X.A (f v u) Q X.xe s2) :
  wpAny (model X.prog X.w) X.A (eval a X.env) (λv s₁=>wpAny (model X.prog X.w) X.A (eval b X.env) (λu s₂=>wpAny (model X.prog X.w) X.A (f v u) Q X.xe s₂) X.xe s₁) X.xe s:=by
 refine thn (ha pins s U H _ I h) λv s1 ⟨x,H1,I1,r1,q1⟩=>?_;refine thn (hb pins s1 U H1 _ I1 q1) λu s2 ⟨y,H2,I2,r2,q2⟩=>?_;exact hf v u s2 x y H2 I2 r1 r2 q2
theorem aF {op:Operator} {r:R2} (ho:OpR X (binaryOp op) r) (ha:PE X a ta) (hb:PE X b tb):PE X (.BinOp a op b pos) (tOp r ta tb):=by
 intro pins s U H Q I h;exact wpAny_BinOp (wP ha hb I h λv u s2 x y H2 I2 rx ry q=>ho pins s2 U H2 x y v u Q I2 rx ry q)
theorem rB {op:UnaryOp} {r:V->Hp->VK->Prop} (ho:UnR X (unaryOp op) r) (ha:PE X a ta):PE X (.UnaryOp op a pos) (tUn r ta):=by
 intro pins s U H Q I h;exact UnaryOp_ (thn (ha pins s U H _ I h) λv s1 ⟨x,H1,I1,r1,q1⟩=>ho pins s1 U H1 x v Q I1 r1 q1)
theorem opI {C:Int->Int->Prop} {g:Int->Int->Int}
  (rule:∀(i j:Int) (t u:Tok) (s:Shared) (Q:A0) (E:A0),C i j->Q (.int (g i j) s.toks) { s with toks:=s.toks+1 }->wpAny (model X.prog X.w) X.A (f (.int i t) (.int j u)) Q E s) :
  OpR X f (rI C λi j=>.int (g i j)):=by
 intro pins s U H x y v u Q I rx ry h;obtain⟨i,j,rfl,rfl,hc,q⟩:=h;obtain⟨t,rfl⟩:=rx;obtain⟨t',rfl⟩:=ry;exact rule i j t t' s _ _ hc ⟨.int (g i j),H,I.tok _,⟨_,rfl⟩,q⟩
theorem xz {g:Int->Int->Int}
  (rule:∀(i j:Int) (t u:Tok) (s:Shared) (Q:A0) (E:A0),Q (.int (g i j) s.toks) { s with toks:=s.toks+1 }->wpAny (model X.prog X.w) X.A (f (.int i t) (.int j u)) Q E s) :
  OpR X f (rI0 λi j=>.int (g i j)):=by
 intro pins s U H x y v u Q I rx ry h;obtain⟨i,j,rfl,rfl,q⟩:=h;obtain⟨t,rfl⟩:=rx;obtain⟨t',rfl⟩:=ry;exact rule i j t t' s _ _ ⟨.int (g i j),H,I.tok _,⟨_,rfl⟩,q⟩
theorem wn {g:Int->Int->Bool}
  (rule:∀(i j:Int) (t u:Tok) (s:Shared) (Q:A0) (E:A0),Q (.bool (g i j)) s->wpAny (model X.prog X.w) X.A (f (.int i t) (.int j u)) Q E s) :
  OpR X f (rI0 λi j=>.bl (g i j)):=by
 intro pins s U H x y v u Q I rx ry h;obtain⟨i,j,rfl,rfl,q⟩:=h;obtain⟨t,rfl⟩:=rx;obtain⟨t',rfl⟩:=ry;exact rule i j t t' s _ _ ⟨.bl (g i j),H,I,rfl,q⟩
def yE (i j:Int):Prop:=0<j/\j<1073741824
def yD (i j:Int):Prop:=0<=j/\j<=1000000/\i.natAbs<2 ^ 64
def wW (i j:Int):Prop:=(-(2 ^ 64)<i/\i<2 ^ 64)\/(-(2 ^ 64)<j/\j<2 ^ 64)
theorem wW.ok {i j:Int} (h:wW i j):IntMulOk i j:=by
 rcases h with⟨h1,h2⟩|⟨h1,h2⟩
 ·exact .of_left (intBits_le_64 h1 h2)
 exact .of_right (intBits_le_64 h1 h2)
theorem bV:OpR X (binaryOp .Add) (rI0 λi j=>.int (i+j)):=xz λ_ _ _ _ _ _ _ q=>add_int q
theorem fO:OpR X (binaryOp .Sub) (rI0 λi j=>.int (i-j)):=xz λ_ _ _ _ _ _ _ q=>sub_int q
theorem d7:OpR X (binaryOp .Mult) (rI wW λi j=>.int (i*j)):=opI λ_ _ _ _ _ _ _ hc q=>mul_int q hc.ok
theorem oA:OpR X (binaryOp .FloorDiv) (rI yE λi j=>.int (i / j)):=opI λi j _ _ _ _ _ hc q=>by
 have h1:(0:Int)<j:=hc.1;have h2:j<1073741824:=hc.2;exact floordiv_int (by omega) (by rw[Int.fdiv_eq_ediv_of_nonneg i (by omega)];exact q) (.inl (PyProof.noPylong_small (by omega)))
theorem fQ:OpR X (binaryOp .Mod) (rI (λ_ j=>0<j) λi j=>.int (i % j)):=opI λi j _ _ _ _ _ hc q=>by
 have h1:(0:Int)<j:=hc;exact mod_int' (by omega) (by rw[Int.fmod_eq_emod_of_nonneg i (by omega)];exact q)
theorem rL:OpR X (binaryOp .Pow) (rI yD λi j=>.int (i ^ j.toNat)):=opI λ_ _ _ _ _ _ _ hc q=>pow_int_small hc.1 hc.2.1 hc.2.2 q
theorem unI {f:Value->Sem Value} {g:Int->Int}
  (rule:∀(i:Int) (t:Tok) (s:Shared) (Q:A0) (E:A0),Q (.int (g i) s.toks) { s with toks:=s.toks+1 }->wpAny (model X.prog X.w) X.A (f (.int i t)) Q E s) :
  UnR X f (rU λi=>.int (g i)):=by
 intro pins s U H x v Q I rx h;obtain⟨i,rfl,q⟩:=h;obtain⟨t,rfl⟩:=rx;exact rule i t s _ _ ⟨.int (g i),H,I.tok _,⟨_,rfl⟩,q⟩
theorem l8:UnR X (unaryOp .USub) (rU λi=>.int (-i)):=unI λ_ _ _ _ _ q=>neg_int q
end
noncomputable def tR:V->V->Bool
 | .non,.non=>true|.non,.int _=>true|.int _,.non=>true|.non,.bl _=>true|.bl _,.non=>true|.non,.str _=>true|.str _,.non=>true
 | .int _,.int _=>true|.bl _,.bl _=>true|.str _,.str _=>true|.byt _,.byt _=>true
 | .int _,.str _=>true|.str _,.int _=>true|.bl _,.str _=>true|.str _,.bl _=>true
 | _,_=>false
def rEq:R2:=λx y H Q=>tR x y=true/\Q (.bl (decide (x=y))) H
def rNe:R2:=λx y H Q=>tR x y=true/\Q (.bl (!decide (x=y))) H
theorem oW {i j:Int}:decide (V.int i=V.int j)=(i==j):=by
 rw[Bool.eq_iff_iff];simp
theorem tj {i j:Bool}:decide (V.bl i=V.bl j)=(i==j):=by
 rw[Bool.eq_iff_iff];simp
theorem oV {i j:Str}:decide (V.str i=V.str j)=(i==j):=by
 rw[Bool.eq_iff_iff];simp
theorem oX {i j:Array UInt8}:decide (V.byt i=V.byt j)=(i.toList==j.toList):=by
 rw[Bool.eq_iff_iff];cases i;cases j;simp
section
variable {X:Cx} {a b c:Expr} {ta tb tc:TE} {pos:Pos}
theorem a7 {pins:A1} {U:St} {H:Hp} {s:Shared} {Q:VK} {k k':Bool} (I:Inv X pins U H s) (q:Q (.bl k) H) (e:k=k'):EP X pins U Q (.bool k') s:=by
 subst e;exact⟨.bl k,H,I,rfl,q⟩
theorem dP:OpR X (compareOp .Eq) rEq:=by
 intro pins s U H x y v u Q I rx ry h;obtain⟨hs,q⟩:=h
 cases x with
 | non =>
  cases rx
  cases y with
  | non=>cases ry;exact PySem.EqNone.eq_none_none (a7 I q (by simp))
  | bl j=>cases ry;exact PySem.EqNone.eq_none_bool (a7 I q (by simp))
  | int j=>obtain⟨t',rfl⟩:=ry;exact PySem.EqNone.eq_none_int (a7 I q (by simp))
  | str j=>obtain⟨t',rfl⟩:=ry;exact PySem.EqNone.eq_none_str (a7 I q (by simp))
  | _=>exact absurd (show false=true from hs) Qm
 | bl i =>
  cases rx
  cases y with
  | non=>cases ry;exact PySem.EqNone.eq_bool_none (a7 I q (by simp))
  | bl j=>cases ry;exact eq_bool (a7 I q tj)
  | str j=>obtain⟨t',rfl⟩:=ry;exact PySem.EqMixed.eq_bool_str (a7 I q (by simp))
  | _=>exact absurd (show false=true from hs) Qm
 | int i =>
  obtain⟨t,rfl⟩:=rx
  cases y with
  | non=>cases ry;exact PySem.EqNone.eq_int_none (a7 I q (by simp))
  | int j=>obtain⟨t',rfl⟩:=ry;exact eq_int (a7 I q oW)
  | str j=>obtain⟨t',rfl⟩:=ry;exact PySem.EqMixed.eq_int_str (a7 I q (by simp))
  | _=>exact absurd (show false=true from hs) Qm
 | str i =>
  obtain⟨t,rfl⟩:=rx
  cases y with
  | non=>cases ry;exact PySem.EqNone.eq_str_none (a7 I q (by simp))
  | bl j=>cases ry;exact PySem.EqMixed.eq_str_bool (a7 I q (by simp))
  | int j=>obtain⟨t',rfl⟩:=ry;exact PySem.EqMixed.eq_str_int (a7 I q (by simp))
  | str j=>obtain⟨t',rfl⟩:=ry;exact eq_str (a7 I q oV)
  | _=>exact absurd (show false=true from hs) Qm
 | byt i =>
  obtain⟨t,rfl⟩:=rx
  cases y with
  | byt j=>obtain⟨t',rfl⟩:=ry;exact PySem.W.eq_bytes (a7 I q oX)
  | _=>exact absurd (show false=true from hs) Qm
 | _=>cases y <;> exact absurd (show false=true from hs) Qm
theorem rM:OpR X (compareOp .NotEq) rNe:=by
 intro pins s U H x y v u Q I rx ry h;obtain⟨hs,q⟩:=h
 cases x with
 | non =>
  cases rx
  cases y with
  | non=>cases ry;exact PySem.EqNone.ne_none_none (a7 I q (by simp))
  | bl j=>cases ry;exact PySem.EqNone.ne_none_bool (a7 I q (by simp))
  | int j=>obtain⟨t',rfl⟩:=ry;exact PySem.EqNone.ne_none_int (a7 I q (by simp))
  | str j=>obtain⟨t',rfl⟩:=ry;exact PySem.EqNone.ne_none_str (a7 I q (by simp))
  | _=>exact absurd (show false=true from hs) Qm
 | bl i =>
  cases rx
  cases y with
  | non=>cases ry;exact PySem.EqNone.ne_bool_none (a7 I q (by simp))
  | bl j=>cases ry;exact ne_bool (a7 I q (congrArg not tj))
  | str j=>obtain⟨t',rfl⟩:=ry;exact PySem.EqMixed.ne_bool_str (a7 I q (by simp))
  | _=>exact absurd (show false=true from hs) Qm
 | int i =>
  obtain⟨t,rfl⟩:=rx
  cases y with
  | non=>cases ry;exact PySem.EqNone.ne_int_none (a7 I q (by simp))
  | int j=>obtain⟨t',rfl⟩:=ry;exact ne_int (a7 I q (congrArg not oW))
  | str j=>obtain⟨t',rfl⟩:=ry;exact PySem.EqMixed.ne_int_str (a7 I q (by simp))
  | _=>exact absurd (show false=true from hs) Qm
 | str i =>
  obtain⟨t,rfl⟩:=rx
  cases y with
  | non=>cases ry;exact PySem.EqNone.ne_str_none (a7 I q (by simp))
  | bl j=>cases ry;exact PySem.EqMixed.ne_str_bool (a7 I q (by simp))
  | int j=>obtain⟨t',rfl⟩:=ry;exact PySem.EqMixed.ne_str_int (a7 I q (by simp))
  | str j=>obtain⟨t',rfl⟩:=ry;exact ne_str (a7 I q (congrArg not oV))
  | _=>exact absurd (show false=true from hs) Qm
 | byt i =>
  obtain⟨t,rfl⟩:=rx
  cases y with
  | byt j=>obtain⟨t',rfl⟩:=ry;exact PySem.W.ne_bytes (a7 I q (congrArg not oX))
  | _=>exact absurd (show false=true from hs) Qm
 | _=>cases y <;> exact absurd (show false=true from hs) Qm
theorem oz:OpR X (compareOp .Lt) (rI0 λi j=>.bl (decide (i<j))):=wn λ_ _ _ _ _ _ _ q=>lt_int q
theorem kT:OpR X (compareOp .Gt) (rI0 λi j=>.bl (decide (j<i))):=wn λ_ _ _ _ _ _ _ q=>gt_int q
theorem xy:OpR X (compareOp .GtE) (rI0 λi j=>.bl (decide (j<=i))):=wn λ_ _ _ _ _ _ _ q=>ge_int q
theorem t5:OpR X (compareOp .IsNot) (λx y H Q=>y=.non/\Q (.bl (!decide (x=.non))) H):=by
 intro pins s U H x y v u Q I rx ry h;obtain⟨rfl,q⟩:=h;cases ry;refine isnot_none_gen (a7 I q ?_)
 cases x <;> first
  | (cases rx;rfl)
  | (obtain⟨t,rfl⟩:=rx;rfl)
variable {op:CmpOp}
theorem aG (b:Expr) (h:op≠.In:=by decide) (h2:op≠.NotIn:=by decide):behindInMarks op b=false:=by
 have e1:(op==CmpOp.In)=false:=by cases op <;> first|rfl|exact absurd rfl h
 have e2:(op==CmpOp.NotIn)=false:=by cases op <;> first|rfl|exact absurd rfl h2
 cases b <;> simp[behindInMarks,e1,e2]
theorem cj {r:R2} (ho:OpR X (compareOp op) r) (ha:PE X a ta) (hb:PE X b tb) (hm:behindInMarks op b=false):PE X (.Compare a [op] [b] pos) (tOp r ta tb):=by
 intro pins s U H Q I h;exact wpAny_Compare1 (wP ha hb I h λv u s2 x y H2 I2 rx ry q=>ho pins s2 U H2 x y v u Q I2 rx ry q) hm
def qx (t:TE):TT:=λU H Q=>t U H λx H'=>∃k,x=.bl k/\Q k H'
theorem aD {r:R2} (ho:OpR X (compareOp op) r) (ha:PE X a ta) (hb:PE X b tb) (hm:behindInMarks op b=false):PT X (.Compare a [op] [b] pos) (qx (tOp r ta tb)):=by
 intro pins s U H Q I h
 refine wpAny_isTrue_Compare1 (thn (ha pins s U H _ I h) λv s1 ⟨x,H1,I1,r1,q1⟩=>thn (hb pins s1 U H1 _ I1 q1) λu s2 ⟨y,H2,I2,r2,q2⟩ =>
  thn (ho pins s2 U H2 x y v u _ I2 r1 r2 q2) λc s3 ⟨z,H3,I3,r3,k,e,q3⟩=>?_) hm
 subst e;cases r3;exact wpAny_truthy_bool ⟨H3,I3,q3⟩
theorem fU:(sizeLine:Nat)<2 ^ 63:=by rw[XH];decide
theorem bM:OpR X (binaryOp .Add) (λx y H Q=>∃i j,x=.str i/\y=.str j/\i.length+j.length<=sizeLine/\Q (.str (i++j)) H):=by
 intro pins s U H x y v u Q I rx ry h;obtain⟨i,j,rfl,rfl,hz,q⟩:=h;obtain⟨t,rfl⟩:=rx;obtain⟨t',rfl⟩:=ry;exact add_str (λt' tk=>⟨.str (i++j),H,I.tok _,⟨_,rfl⟩,q⟩) hz
theorem c9 {x:V} {us:List Value} (r:aO [x] us):∃u,us=[u]/\aI x u:=by
 cases r with
 | cons r1 r2=>cases r2;exact⟨_,rfl,r1⟩
theorem nC {x y:V} {us:List Value} (r:aO [x,y] us):∃u w',us=[u,w']/\aI x u/\aI y w':=by
 cases r with
 | cons r1 r2 =>
 cases r2 with
 | cons r3 r4=>cases r4;exact⟨_,_,rfl,r1,r3⟩
theorem qg (hc:X.calm=true):dR X (.builtin "max") (λxs H Q=>∃i j,xs=[.int i,.int j]/\Q (.int (if j>i then j else i)) H):=by
 intro pins s U H xs us Q I r h;obtain⟨i,j,rfl,q⟩:=h;obtain⟨u,w',rfl,⟨t,rfl⟩,⟨t',rfl⟩⟩:=nC r;refine max_two_ints (I.ok.hd hc) λh' tk k=>⟨_,H,I.kept k,?_,q⟩;by_cases hj:j>i
 ·rw[Qt hj,Qt hj];exact⟨_,rfl⟩
 rw[Qr hj,Qr hj];exact⟨_,rfl⟩
theorem i6 (hc:X.calm=true):dR X (.builtin "min") (λxs H Q=>∃i j,xs=[.int i,.int j]/\Q (.int (if j<i then j else i)) H):=by
 intro pins s U H xs us Q I r h;obtain⟨i,j,rfl,q⟩:=h;obtain⟨u,w',rfl,⟨t,rfl⟩,⟨t',rfl⟩⟩:=nC r;refine min_two_ints (I.ok.hd hc) λh' tk k=>⟨_,H,I.kept k,?_,q⟩;by_cases hj:j<i
 ·rw[Qt hj,Qt hj];exact⟨_,rfl⟩
 rw[Qr hj,Qr hj];exact⟨_,rfl⟩
theorem bY:dR X (.type "int") (λxs H Q=>(∃i,xs=[.int i]/\Q (.int i) H)\/∃k,xs=[.bl k]/\Q (.int (if k then 1 else 0)) H):=by
 intro pins s U H xs us Q I r h;rcases h with⟨i,rfl,q⟩|⟨k,rfl,q⟩
 ·obtain⟨u,rfl,t,rfl⟩:=c9 r;exact call_int_int ⟨.int i,H,I,⟨_,rfl⟩,q⟩
 obtain⟨u,rfl,r1⟩:=c9 r;cases r1;exact call_int_bool ⟨.int (if k then 1 else 0),H,I.tok _,⟨_,rfl⟩,q⟩
end
structure ObjM (h:Heap) (x dx C:Addr) (mA:A2):Prop where
 obj:h.get? x=some (PySem.W.instObj C dx)
 ns:h.Ns1 dx mA
 ne:dx≠x
section
variable {prog:Program} {w:World} {A:Around} {E:A0} {s:Shared} {K:PySem.W.Frag} {x dx C f:Addr} {mA:A2} {name:Str} {v:Value}
end
theorem fH.some_of {v:V} {o:Option Value} (r:fH (some v) o):∃u,o=some u/\aI v u:=by
 cases o with
 | none=>exact(show False from r).elim
 | some u=>exact⟨u,rfl,r⟩
theorem fH.none_of {o:Option Value} (r:fH none o):o=none:=by
 cases o with
 | none=>rfl
 | some u=>exact(show False from r).elim
section
variable {P:Program} {w:World} {H H':Hp} {h h':Heap} {a C dx:Addr} {fs fs':List (Str × V)}
end
structure Cls (K:PySem.W.Frag) (C:Addr):Prop where
 pg:PySem.W.plainGet K C Str.empty=true
 hd:PySem.W.hasDictIn K C=true
 po:PySem.W.plainOver K C=true
 sa:PySem.W.findIn K (.ref C) "__setattr__" = some (some (.builtin "object.__setattr__"))
theorem Cls.get {K:PySem.W.Frag} (c:Cls K C) (f:Str):PySem.W.plainGet K C f=true:=c.pg
structure Con (K:PySem.W.Frag) (C:Addr) (f:Str) (v:V) (u:Value):Prop where
 at_:PySem.W.findIn K (.ref C) f=some (some u)
 rel:aI v u
 get:PySem.W.specialIn K u "__get__" = some none
 cp:PySem.W.copiedNames.contains f=false
structure Meth (K:PySem.W.Frag) (C:Addr) (m:Str) (f:Addr):Prop where
 at_:PySem.W.findIn K (.ref C) m=some (some (.ref f))
 fn:PySem.W.isFn K (.ref f)=true
 kp:PySem.W.keepIn K (.ref f)=true
section
variable {X:Cx} {pins:A1} {U:St} {H:Hp} {s:Shared} {a C dx:Addr} {fs:List (Str × V)} {f:Str} {v:V} {A:Around} {E:A0}
end
section
variable {X:Cx} {o e value:Expr} {f:Str} {pos pos' tpos:Pos} {ta tv:TE}
end
section
variable {X:Cx} {pins:A1} {U:St} {H:Hp} {s:Shared} {A:Around} {E:A0} {Q:A0} {c:Value} {b:Bool}
inductive TyOf (K:PySem.W.Frag) (H:Hp):V->Value->Prop where
 | non:TyOf K H .non (.type "NoneType")
 | bl (x:Bool):TyOf K H (.bl x) (.type "bool")
 | int (i:Int):TyOf K H (.int i) (.type "int")
 | str (x:Str):TyOf K H (.str x) (.type "str")
 | flt (x:UInt64):TyOf K H (.flt x) (.type "float")
 | lst {a:Addr} {xs:List V} (e:H a=some (.lst xs)):TyOf K H (.ref a) (.type "list")
 | frz {a:Addr} {o:Obj} {xs:List V} (e:H a=some (.frz o (.lst xs))):TyOf K H (.ref a) (.type "list")
 | tup {a:Addr} {xs:List V} (e:H a=some (.tup xs)):TyOf K H (.ref a) (.type "tuple")
 | dK {a:Addr} {kvs:List (Key × V)} (e:H a=some (.dK kvs)):TyOf K H (.ref a) (.type "dict")
 | dT {a:Addr} {kvs:List (av × V)} (e:H a=some (.dT kvs)):TyOf K H (.ref a) (.type "dict")
 | ins {a C dx:Addr} {fs:List (Str × V)} (e:H a=some (.ins C dx fs)) (cl:Cls K C) (ha:PySem.W.findIn K (.ref C) "__class__" = some (some (.builtin "object.__class__")))
   (hn:PySem.W.specialIn K (.builtin "object.__class__") "__get__" = some (some (.builtin "getset_descriptor.__get__"))) (htk:PySem.W.takesIn K (.builtin "object.__class__")=some true)
   (hm:PySem.W.mroIn K C (.type "object")=some true):TyOf K H (.ref a) (.ref C)
end
structure Room (k:Nat) (A:Around):Prop where
 hd:A.handled=none
 dp:A.depth+3*k+5<recursionLimit
 un:A.units+16*k+200<cLine
theorem Room.mono {j k:Nat} (r:Room k A) (h:j<=k):Room j A:=⟨r.hd,by have:=r.dp;omega,by have:=r.un;omega⟩
theorem Room.deeper {k:Nat} (r:Room (k+1) A) (env:Env):Room k (A.deeper env) :=
 ⟨r.hd,by have:=r.dp;show A.depth+1+3*k+5<_;omega,by have:=r.un;show A.units+3+16*k+200<_;omega⟩
theorem Room.depth {k:Nat} (r:Room k A):A.depth<recursionLimit:=by have:=r.dp;omega
theorem Room.units {k:Nat} (r:Room k A):A.units+64<cLine:=by have:=r.un;omega
def jk:TA:=λ_ H Q=>Q [] H
def eJ (ta:TE) (tr:TA):TA:=λU H Q=>ta U H λx H1=>tr U H1 λxs H2=>Q (x::xs) H2
section
variable {X:Cx} {e:Expr} {es:List Expr} {te:TE} {t:TA} {pos:Pos}
theorem ad:PA X [] jk:=λ_ _ _ _ H Q I h=>Calls.spliced_nil ⟨[],H,I,.nil,h⟩
theorem aa (ha:PE X e te) (hr:PA X es t) (hs:starEach (e::es) X.env=(false,eval e X.env)::starEach es X.env:=by rfl):PA X (e::es) (eJ te t):=by
 intro pos pins s U H Q I h;rw[hs];show wpAny _ _ (spliced ((false,eval e X.env)::backTo pos (starEach es X.env))) _ _ s;refine XR (thn (ha pins s U H _ I h) λu s1 ⟨x,H1,I1,r1,q1⟩=>?_);exact thn (hr pos pins s1 U H1 _ I1 q1) λus s2 ⟨xs,H2,I2,r2,q2⟩=>⟨x::xs,H2,I2,.cons r1 r2,q2⟩
def qw (t:TA):TE:=λU H Q=>t U H λxs H1=>xs.length<=sizeLine/\∀p,H1 p=none->Q (.ref p) (upd H1 p (.tup xs))
def qy (t:TA):TE:=λU H Q=>t U H λxs H1=>xs.length<=sizeLine/\∀p,H1 p=none->Q (.ref p) (upd H1 p (.lst xs))
theorem pe_tup {x1} (h:PA X es t):PE X (.Tuple es x1 pos) (qw t):=by
 intro pins s U H Q I hq;refine wpAny_Tuple_spliced (thn (h pos pins s U H _ I hq) λus s1 ⟨xs,H1,I1,r,z,q⟩=>⟨by rw[<-r.length];exact z,?_⟩);have hf:H1 s1.heap.objs.size=none:=I1.hok.fresh (Qg _);refine⟨.ref s1.heap.objs.size,upd H1 s1.heap.objs.size (.tup xs),I1.laid (t':=s1.toks) (λb u e=>Qb _ e) (Qg _) ?_,rfl,q _ hf⟩;exact⟨z,us,r,⟨_,Qq _ rfl,rfl,_,rfl⟩⟩
theorem pe_lst (h:PA X es t):PE X (.List es pos) (qy t):=by
 intro pins s U H Q I hq;refine wpAny_List_spliced (thn (h pos pins s U H _ I hq) λus s1 ⟨xs,H1,I1,r,z,q⟩=>⟨by rw[<-r.length];exact z,?_⟩);have hf:H1 s1.heap.objs.size=none:=I1.hok.fresh (Qg _);refine⟨.ref s1.heap.objs.size,upd H1 s1.heap.objs.size (.lst xs),I1.laid (t':=s1.toks) (λb u e=>Qb _ e) (Qg _) ?_,rfl,q _ hf⟩;exact⟨z,us,0,r,Qq _ rfl⟩
end
abbrev Sp:=List V->Hp->VK->XK->Prop
abbrev CXT:=List Env->Hp->Shared->XK->A0
structure Env0 (P:Program) (w:World) (K:PySem.W.Frag) (mg:A2) (base:Heap) (A:Around) (outer:List Env) (s:Shared) (H:Hp):Prop where
 frames:A.frames=some outer
 mod:Mod K mg base
 bs:∀b o,base.get? b=some o->s.heap.get? b=some o/\H b=none
 bsz:base.objs.size<=s.heap.objs.size
 funs:s.heap.FunFrames base outer
 frf:∀b∈frs outer,H b=none
 hok:HOk P w H s.heap
 bare:AllBare s.gens
def CE (outer:List Env) (P:Program) (w:World) (H:Hp) (s:Shared) (Q:VK) (u:Value) (s':Shared):Prop :=
 ∃v H',s'.os=s.os/\AllBare s'.gens/\Un (frs outer) [] H H' s.heap s'.heap/\HOk P w H' s'.heap/\aI v u/\Q v H'
def CR (CX:CXT) (outer:List Env) (P:Program) (w:World) (H:Hp) (s:Shared) (Q:VK) (E:XK) (r:Result) (s':Shared):Prop :=
 match r with
 | .ok (.ret u)=>CE outer P w H s Q u s'
 | .ok _=>False
 | .error e=>CX outer H s E e s'
structure FnOk (P:Program) (w:World) (K:PySem.W.Frag) (mg:A2) (base:Heap) (CX:CXT) (k:Nat) (f:Addr) (fd:FuncData) (ps:List Str) (sp:Sp):Prop where
 len:∀vs H Q E,sp vs H Q E->vs.length=ps.length
 run:∀(A:Around) (outer:List Env) (s:Shared) (H:Hp) (args:Args) (us:List Value) (vs:List V) (Q:VK) (E:XK),Room k A->Env0 P w K mg base A outer s H->BindsTo s fd args (ps.zip us)->aO vs us->sp vs H Q E ->
  codeAny (model P w) A (.call (.ref f) args) (CR CX outer P w H s Q E) s
section
variable {X:Cx} {pins:A1} {U:St} {H:Hp} {s s':Shared}
theorem Inv.env0 (I:Inv X pins U H s):Env0 X.prog X.w X.K X.mg X.base X.A X.stack s H :=
 ⟨I.ok.frames,I.ok.mod,I.bs,QG I.ok.bsz I.sz,I.stack,I.stkFree,I.hok,I.bare⟩
theorem Inv.after {Q:VK} {u:Value} (I:Inv X pins U H s) (h:CE X.stack X.prog X.w H s Q u s'):EP X pins U Q u s':=by
 obtain⟨v,H',os,bare,un,hok,r,q⟩:=h;obtain⟨hh,g,d,t,os'⟩:=s';obtain rfl:os'=s.os:=os;exact⟨v,H',I.call (h':=hh) (g':=g) (d':=d) (t':=t) (ch:=[]) un hok bare (λb z=>absurd z (by simp)),r,q⟩
end
def nO (sp:Sp) (dvs:List V) (E:XK) (t:TA):TE:=λU H Q=>t U H λvs H1=>sp (vs++dvs) H1 Q E
def ik (K:PySem.W.Frag) (fd:FuncData) (ps:List Str) (ds:List Value):Prop :=
 ∀(s:Shared) (us:List Value),K.In s.heap->(us++ds).length=ps.length->BindsTo s fd ⟨us,[]⟩ (ps.zip (us++ds))
variable {ps N:List Str}
theorem ik.all {K:PySem.W.Frag} {fd:FuncData} (h:∀us:List Value,us.length=ps.length->bindArgs fd ⟨us,[]⟩=pure (ps.zip us)):ik K fd ps []:=λs us _ hl=>by
 rw[List.append_nil]at hl ⊢;exact .of_eq (h us hl)
def ij (CX:CXT) (X:Cx) (E:XK):Prop:=∀(pins:A1) (U:St) (H:Hp) (s:Shared) (e:Value) (s':Shared),Inv X pins U H s->CX X.stack H s E e s'->X.xe e s'
section
variable {X:Cx} {CX:CXT} {k:Nat} {f C:Addr} {fd:FuncData} {ps:List Str} {sp:Sp} {dvs:List V} {ds:List Value} {E:XK} {x m:Str} {p pos apos:Pos} {e o:Expr} {es:List Expr} {ta:TE} {t:TA}
theorem vW {pins:A1} {U:St} {H:Hp} {s:Shared} {Q:VK} {us:List Value} {vs:List V} (F:FnOk X.prog X.w X.K X.mg X.base CX k f fd ps sp) (hr:Room k X.A) (hb:ik X.K fd ps ds) (hd:aO dvs ds) (hx:ij CX X E)
  (I:Inv X pins U H s) (r:aO vs us) (h:sp (vs++dvs) H Q E):wpAny (model X.prog X.w) X.A (call (.ref f) us) (EP X pins U Q) X.xe s:=by
 have r2:aO (vs++dvs) (us++ds):=r.append hd;have hl:(us++ds).length=ps.length:=by rw[<-r2.length];exact F.len _ _ _ _ h
 refine wpAny_call (codeAny_mono (F.run X.A X.stack s H ⟨us,[]⟩ (us++ds) (vs++dvs) Q E hr I.env0 (hb s us I.kIn hl) r2 h) λr s' hq=>?_)
 cases r with
 | error e=>exact hx pins U H s e s' I hq
 | ok fl =>
 cases fl with
 | ret u=>exact I.after hq
 | next=>exact False.elim hq
 | brk=>exact False.elim hq
 | cont=>exact False.elim hq
theorem tX (F:FnOk X.prog X.w X.K X.mg X.base CX k f fd ps sp) (hr:Room k X.A) (hg:Gl X x) (hm:X.mg x=some (.ref f)) (hk:PySem.W.keepIn X.K (.ref f)=true) (hb:ik X.K fd ps ds) (hd:aO dvs ds) (hx:ij CX X E)
  (ha:PA X (e::es) t) (hdb:(x==("__debug__" : Str))=false:=by decide) (he:starEach (e::es) X.env=(false,eval e X.env)::starEach es X.env:=by rfl) (hpl:(backTo pos (starEach es X.env)).any (·.1)=false:=by rfl) :
  PE X (.Call (.Name x p) (e::es) [] pos) (nO sp dvs E t):=by
 intro pins s U H Q I h;refine wpAny_Call_Name_kw (jF I hg hm ?_ hdb);refine PySem.W.callWith_K (h₀:=X.base) I.ok.mod.kin hk (thn (ha pos pins s U H _ I h) λus s1 ⟨vs,H1,I1,r,q⟩=>⟨I1.kIn,?_⟩) he hpl;exact vW F hr hb hd hx I1 r q
structure Mk (K:PySem.W.Frag) (C f:Addr):Prop where
 makes:PySem.W.makesIn K C=true
 init:PySem.W.findIn K (.ref C) "__init__" = some (some (.ref f))
 fn:PySem.W.isFn K (.ref f)=true
 kp:PySem.W.keepIn K (.ref C)=true
end
section
variable {X:Cx} {CX:CXT} {k:Nat} {f C:Addr} {fd:FuncData} {ps ks:List Str} {sp:Sp} {E:XK} {x m:Str} {p pos apos kpos:Pos} {e o:Expr} {es:List Expr} {kws:List Keyword} {te ta:TE} {t tk:TA} {nm:Option Str}
structure KBinds (K:PySem.W.Frag) (fd:FuncData) (ps ks:List Str) (g:List Value->List Value->List Value) (gV:List V->List V->List V):Prop where
 to:∀(s:Shared) (us ws:List Value),K.In s.heap->(g us ws).length=ps.length->BindsTo s fd ⟨us,ks.zip ws⟩ (ps.zip (g us ws))
 rel:∀{vs:List V} {us:List Value} {zs:List V} {ws:List Value},aO vs us->aO zs ws->aO (gV vs zs) (g us ws)
variable {g:List Value->List Value->List Value} {gV:List V->List V->List V}
end
structure FnScope (N P:List Str) (sc:Scope):Prop where
 kind:sc.kind=.function
 co:sc.isCoroutine=false
 gen:sc.isGenerator=false
 nd:N.Nodup
 pre:N.take P.length=P
 par:∀x∈P,sc.names.lookup x=some .local\/sc.names.lookup x=some .cell
 nofree:∀y∈sc.names,y.2≠.free
theorem i7 {kindOf:Str->Option NameKind} {x:Str}:∀{binds:List (Str × Value)} {m:A2},(∀v,(x,v)∉binds)->bindL kindOf binds m x=m x
 | [],_,_=>rfl
 | (n,v)::r,m,h=>by
  unfold bindL;rw[i7 λw hw=>h w (Qo _ hw)]
  split
  ·have:x≠n:=by rintro rfl;exact h v Xl
   simp[this]
  rfl
theorem i9 {kindOf:Str->Option NameKind} {x:Str}:∀{binds:List (Str × Value)} {m:A2},(∀v,(x,v)∉binds)->bindC kindOf binds m x=m x
 | [],_,_=>rfl
 | (n,v)::r,m,h=>by
  unfold bindC;rw[i9 λw hw=>h w (Qo _ hw)]
  split
  ·rfl
  have:x≠n:=by rintro rfl;exact h v Xl
  simp[this]
theorem i8 {kindOf:Str->Option NameKind} {x:Str} {v:Value}:∀{P:List Str} {vs:List Value} {i:Nat} {m:A2},P.Nodup->P[i]?=some x->vs[i]?=some v->kindOf x=some .local ->
  bindL kindOf (P.zip vs) m x=some v
 | [],_,_,_,_,h,_,_=>by simp at h
 | _::_,[],_,_,_,_,h,_=>by simp at h
 | p::P,w::vs,0,m,nd,h1,h2,hk=>by
  simp at h1 h2;subst h1;subst h2;show bindL kindOf ((p,w)::P.zip vs) m p=_;unfold bindL;rw[i7 λv hv=>(QN.mp nd).1 (List.of_mem_zip hv).1,Qt hk];simp
 | p::P,w::vs,i+1,m,nd,h1,h2,hk=>by
  show bindL kindOf ((p,w)::P.zip vs) m x=_;unfold bindL;exact i8 (i:=i) (QN.mp nd).2 (by simpa using h1) (by simpa using h2) hk
theorem i_ {kindOf:Str->Option NameKind} {x:Str} {v:Value}:∀{P:List Str} {vs:List Value} {i:Nat} {m:A2},P.Nodup->P[i]?=some x->vs[i]?=some v->kindOf x≠some .local ->
  bindC kindOf (P.zip vs) m x=some v
 | [],_,_,_,_,h,_,_=>by simp at h
 | _::_,[],_,_,_,_,h,_=>by simp at h
 | p::P,w::vs,0,m,nd,h1,h2,hk=>by
  simp at h1 h2;subst h1;subst h2;show bindC kindOf ((p,w)::P.zip vs) m p=_;unfold bindC;rw[i9 λv hv=>(QN.mp nd).1 (List.of_mem_zip hv).1,Qr hk];simp
 | p::P,w::vs,i+1,m,nd,h1,h2,hk=>by
  show bindC kindOf ((p,w)::P.zip vs) m x=_;unfold bindC;exact i_ (i:=i) (QN.mp nd).2 (by simpa using h1) (by simpa using h2) hk
def start (N:List Str) (vs:List V):St:=vs.map some++List.replicate (N.length-vs.length) none
noncomputable def cxOf (CX:CXT) (P:Program) (w:World) (K:PySem.W.Frag) (mg:A2) (base:Heap) (N:List Str) (qual:Str) (scope:Scope) (f:Addr) (cd:Value) (A:Around) (outer:List Env) (s:Shared) (H:Hp) (E:XK):Cx where
 prog:=P
 w:=w
 K:=K
 mg:=mg
 base:=base
 A:=A.deeper (envOfC qual scope s.heap.objs.size f cd)
 N:=N
 s₀:=s
 H₀:=H
 env:=envOfC qual scope s.heap.objs.size f cd
 outer:=outer
 stack:=envOfC qual scope s.heap.objs.size f cd::outer
 ex:=[]
 calm:=true
 fn:=λ_=>true
 pn:=[]
 xe:=λe s'=>wpAny (model P w) (A.deeper (envOfC qual scope s.heap.objs.size f cd)) (leaving (envOfC qual scope s.heap.objs.size f cd) e) (λ_ s''=>CX outer H s E e s'') (λe' s''=>CX outer H s E e' s'') s'
variable {sc scope:Scope}
theorem lM {n:Nat} {x:Str} (h:sc.names.lookup x=some .cell):∃c,(cellsFrom n sc.names []).lookup x=some c:=by
 have q:=PySem.W.cellsFrom_some sc.names n [] (.inl h);exact Option.isSome_iff_exists.mp q
theorem pW {CX:CXT} {P:Program} {w:World} {K:PySem.W.Frag} {mg:A2} {base:Heap} {qual:Str} {outer:List Env} {E:XK} {us:List Value} {vs:List V}
  (S:FnScope N ps scope) (hd:A.handled=none) (e0:Env0 P w K mg base A outer s H) (hl:vs.length=ps.length) (r:aO vs us)
  (x:InCallC s s.heap.objs.size (bindL (envOfC qual scope s.heap.objs.size f cd).kindOf (ps.zip us) λ_=>none) (cellsFrom (s.heap.objs.size+1) scope.names []) (bindC (envOfC qual scope s.heap.objs.size f cd).kindOf (ps.zip us) λ_=>none) s1) :
  Inv (cxOf CX P w K mg base N qual scope f cd A outer s H E) [] (start N vs) H s1:=by
 have hpl:ps.length<=N.length:=by have:=congrArg List.length S.pre;rw[QO]at this;omega
 obtain⟨h1,tk,rfl,hk⟩:=x.done;have noA:∀b:Addr,b∉(cxOf CX P w K mg base N qual scope f cd A outer s H E).ex:=λb z=>absurd (show b∈([]:A3) from z) (by simp)
 refine⟨⟨e0.mod,S.kind,rfl,rfl,Qg _,λy z c h1 h2=>?_,λy hy=>?_,λy c _ h=>?_,λ_=>hd,Around.frames_deeper e0.frames,.inr ⟨rfl,rfl⟩,λb z=>absurd z (noA b),e0.bs,e0.bsz,λb _ _=>noA b,λb z=>absurd z (noA b),e0.funs,e0.frf⟩,
  rfl,e0.bare,Un.kept hk,⟨_,x.toInCall.ns,λi y v h1 h2 h3=>?_⟩,λy c h=>⟨_,x.cell y c h⟩,e0.hok.fresh (Qg _),λy c h=>?_,λp hp=>absurd (show p∈([]:A1) from hp) (by simp),e0.hok.kept hk,?_⟩
 ·exact name_of_addr x.apart (PySem.mem_of_lookup h1) (PySem.mem_of_lookup h2)
 ·have hy:scope.names.lookup y=some .cell\/scope.names.lookup y=some .free:=hy;rcases hy with hy|hy
  ·exact lM hy
  exact absurd rfl (S.nofree _ (PySem.mem_of_lookup hy))
 ·exact Nat.le_of_lt (x.above y c (PySem.mem_of_lookup h))
 ·have hi:i<vs.length:=by
   unfold start at h2;by_cases hi:i<vs.length
   ·exact hi
   rw[QQ (by simpa using hi)]at h2;rw[List.getElem?_replicate]at h2
   split at h2 <;> cases h2
  have ha:vs[i]?=some v:=by
   unfold start at h2;rw[QM (by simpa using hi),Qs]at h2
   cases e:vs[i]? with
   | none=>rw[e]at h2;cases h2
   | some a=>rw[e]at h2;cases h2;rfl
  obtain⟨u,hu,rv⟩:=r.get ha
  have hp:ps[i]?=some y:=by
   rw[<-S.pre,List.getElem?_take_of_lt (by omega)];exact h1
  have ndP:ps.Nodup:=by rw[<-S.pre];exact S.nd.sublist (List.take_sublist _ _)
  refine⟨u,rv,?_⟩;rcases S.par y (Qk hp) with k|k
  ·exact .inl ⟨k,i8 ndP hp hu k⟩
  obtain⟨c,e⟩:=lM (n:=s.heap.objs.size+1) k;refine .inr ⟨.inl k,c,e,?_⟩;have q:=x.cell y c e;rw[i_ ndP hp hu (by show scope.names.lookup y≠_;rw[k];decide)]at q;exact q
 ·exact e0.hok.fresh (Nat.le_of_lt (x.above y c (PySem.mem_of_lookup h)))
 unfold start;show _=N.length;rw[Qn,Qd,List.length_replicate];omega
theorem vD {CX:CXT} {P:Program} {w:World} {K:PySem.W.Frag} {mg:A2} {base:Heap} {k:Nat} {name qual:Str} {params:Arguments} {body:List Stmt} {kV:Value} {an od:Option Addr}
  {osl:Array (Option Value)} {sp:Sp} (lk:K.lookup f=some ⟨oc,od,.func (PySem.W.fnOf name qual params body scope dV kV doc pm an cdv ct),osl⟩) (hcd:PySem.W.codeIn K cdv qual=true) (S:FnScope N ps scope)
  (len:∀vs H Q E,sp vs H Q E->vs.length=ps.length)
  (hbody:∀(A:Around) (outer:List Env) (s:Shared) (H:Hp) (vs:List V) (Q:VK) (E:XK),Room k (A.deeper (envOfC qual scope s.heap.objs.size f cdv))->sp vs H Q E ->
   ∃t,PSs (cxOf CX P w K mg base N qual scope f cdv A outer s H E) body t/\t { nx:=λ_ H'=>Q .non H',rt:=Q } (start N vs) H) :
  FnOk P w K mg base CX (k+1) f (PySem.W.fnOf name qual params body scope dV kV doc pm an cdv ct) ps sp:=by
 refine⟨len,λA outer s H args us vs Q E hr e0 hb r hsp=>?_⟩;have hl:=len _ _ _ _ hsp;have KX:K.In s.heap:=e0.mod.kin.keeps λb o e=>(e0.bs b o e).1;have lim:s.heap.NoLimit:=e0.mod.nolimit.keeps λb o e=>(e0.bs b o e).1
 have hkind:∀y∈ps.zip us,scope.names.lookup y.1=some .local\/(scope.names.lookup y.1=some .cell/\((cellsFrom (s.heap.objs.size+1) scope.names []).lookup y.1).isSome=true):=λ⟨n,v⟩ hy=>by
  rcases S.par n (List.of_mem_zip hy).1 with q|q
  ·exact .inl q
  exact .inr ⟨q,PySem.W.cellsFrom_some _ _ _ (.inl q)⟩
 refine codeAny_call_function hr.depth (KX _ _ lk) rfl S.co S.gen rfl (PySem.W.codeRec_of KX hcd) (hb _ _ _ _ ?_);refine wpAny_newFunctionEnv_cells S.kind hkind λenv he s1 x=>?_;subst he;refine⟨lim.keeps x.toInCall.keep,codeAny_func ?_⟩;obtain⟨t,ht,hq⟩:=hbody A outer s H vs Q E (hr.deeper _) hsp;have I:Inv (cxOf CX P w K mg base N qual scope f cdv A outer s H E) [] (start N vs) H s1:=pW S hr.hd e0 hl r x;refine XM (ht [] s1 (start N vs) H _ I hq) (λfl s' hs=>?_) λe s' hs=>hs
 have fin:∀{σ':St} {H':Hp} {v:V} {u:Value},Inv (cxOf CX P w K mg base N qual scope f cdv A outer s H E) [] σ' H' s'->aI v u->Q v H'->CE outer P w H s Q u s' :=
  λ{σ' H' v u} J rv q=>⟨v,H',J.os,J.bare,J.base,J.hok,rv,q⟩
 cases fl with
 | ret u =>
  obtain⟨v,σ',H',J,rv,q⟩:=hs;exact fin J rv q
 | next =>
  obtain⟨σ',H',J,q⟩:=hs;exact fin (v:=V.non) (u:=Value.none) J rfl q
 | brk =>
  obtain⟨_,_,_,q⟩:=hs;exact False.elim q
 | cont =>
 obtain⟨_,_,_,q⟩:=hs;exact False.elim q
section
variable {X:Cx} {x:Str} {p pos:Pos} {e:Expr} {es:List Expr} {t:TA} {id T:String} {r:List V->Hp->VK->Prop}
def tCB (r:List V->Hp->VK->Prop) (t:TA):TE:=λU H Q=>t U H λvs H1=>r vs H1 Q
theorem aM (hc:dR X (.builtin id) r) (hg:Gl X x) (hm:X.mg x=none) (hv:bootBuiltins x=some (.builtin id)) (ha:PA X (e::es) t) (hn:x ≠ "__name__" := by decide) (hdb:(x==("__debug__" : Str))=false:=by decide)
  (he:starEach (e::es) X.env=(false,eval e X.env)::starEach es X.env:=by rfl) (hpl:(backTo pos (starEach es X.env)).any (·.1)=false:=by rfl):PE X (.Call (.Name x p) (e::es) [] pos) (tCB r t):=by
 intro pins s U H Q I h;refine wpAny_Call_Name_kw (d8 I hg hm hv ?_ hn hdb);exact PyProof.Rows.callWith_builtin1 (thn (ha pos pins s U H _ I h) λus s1 ⟨vs,H1,I1,r1,q1⟩=>hc pins s1 U H1 vs us Q I1 r1 q1) he hpl
theorem be (hc:dR X (.type T) r) (hg:Gl X x) (hm:X.mg x=none) (hv:bootBuiltins x=some (.type T)) (ha:PA X (e::es) t) (hn:x ≠ "__name__" := by decide) (hdb:(x==("__debug__" : Str))=false:=by decide)
  (he:starEach (e::es) X.env=(false,eval e X.env)::starEach es X.env:=by rfl) (hpl:(backTo pos (starEach es X.env)).any (·.1)=false:=by rfl):PE X (.Call (.Name x p) (e::es) [] pos) (tCB r t):=by
 intro pins s U H Q I h;refine wpAny_Call_Name_kw (d8 I hg hm hv ?_ hn hdb);exact XC (thn (ha pos pins s U H _ I h) λus s1 ⟨vs,H1,I1,r1,q1⟩=>hc pins s1 U H1 vs us Q I1 r1 q1) he hpl
end
end L2
namespace HT
open PySem PyProof.Rows
section
open PySem.SeqAt
open PySem.AutoSeq1 (wpAny_loadPart')
open PySem.MeetsSeq PySem.MeetsSeq2 PySem.MeetsSeq3
end
section
variable {prog:Program} {w:World} {A:Around} {E:A0} {s:Shared}
def sIx (n d:Nat):Option Int->Nat
 | none=>d
 | some v=>if v<0 then (v+(n:Int)).toNat else min v.toNat n
theorem kK (n d:Nat):sIx n d none=d:=rfl
theorem n9 (n d k:Nat):sIx n d (some (k:Int))=min k n:=by
 show (if (k:Int)<0 then ((k:Int)+(n:Int)).toNat else min (k:Int).toNat n)=min k n;rw[Qr (by omega),QX]
end
end HT
namespace L2
open PySem PySem.Spec PyProof.Rows
abbrev TO:=St->Hp->(Option Int->Hp->Prop)->Prop
def PO (X:Cx) (e:Option Expr) (t:TO):Prop :=
 ∀(pins:A1) (s:Shared) (U:St) (H:Hp) (Q:Option Int->Hp->Prop),Inv X pins U H s->t U H Q ->
  wpAny (model X.prog X.w) X.A (evalPart e X.env) (λu s'=>∃o H',Inv X pins U H' s'/\IsPart u o/\Q o H') X.xe s
def nJ:TO:=λ_ H Q=>Q none H
def u7 (t:TE):TO:=λU H Q=>t U H λx H1=>∃i,x=.int i/\Q (some i) H1
section
variable {X:Cx} {e:Expr} {te:TE} {lo hi:Option Expr} {tl th:TO} {pos p2:Pos}
theorem cO:PO X none nJ:=by
 intro pins s U H Q I h;rw[evalPart_none];exact Qf ⟨none,H,I,.none,h⟩
theorem cN (h:PE X e te):PO X (some e) (u7 te):=by
 intro pins s U H Q I hw;rw[evalPart_some];refine thn (h pins s U H _ I hw) λu s1 ⟨x,H1,I1,r1,q1⟩=>?_;obtain⟨i,rfl,q⟩:=q1;obtain⟨t,rfl⟩:=r1;exact⟨some i,H1,I1,.int i t,q⟩
def SlR (X:Cx) (r:V->Option Int->Option Int->Hp->VK->Prop):Prop :=
 ∀(pins:A1) (s:Shared) (U:St) (H:Hp) (x:V) (v vl vu:Value) (lo hi:Option Int) (sl:Addr) (Q:VK),Inv X pins U H s->aI x v->s.heap.IsSliceOf sl vl vu .none->IsPart vl lo->IsPart vu hi->r x lo hi H Q ->
  ∃T id,typeLookup (.type T) "__getitem__" = pure (some (.builtin id))/\s.TypeIs v T/\wpAny (model X.prog X.w) X.A (getItem v (.ref sl)) (EP X pins U Q) X.xe s
def tSl (r:V->Option Int->Option Int->Hp->VK->Prop) (te:TE) (tl th:TO):TE:=λU H Q=>te U H λx H1=>tl U H1 λl H2=>th U H2 λu H3=>r x l u H3 Q
theorem cg {r:V->Option Int->Option Int->Hp->VK->Prop} (hr:SlR X r) (he:PE X e te) (hl:PO X lo tl) (hu:PO X hi th):PE X (.Subscript e (.Slice lo hi none p2) pos) (tSl r te tl th):=by
 intro pins s U H Q I h;refine Subscript_ (thn (he pins s U H _ I h) λv s1 ⟨x,H1,I1,r1,q1⟩=>?_);refine wpAny_Slice (thn (hl pins s1 U H1 _ I1 q1) λvl s2 ⟨l,H2,I2,pl,q2⟩=>thn (hu pins s2 U H2 _ I2 q2) λvu s3 ⟨u,H3,I3,pu,q3⟩=>?_);rw[evalPart_none];refine Qf ?_;have I4:Inv X pins U H3 { s3 with heap:=s3.heap.push { cls:=.type "slice", data:=.fields #[vl,vu,.none] } }:=I3.kept (t':=s3.toks) λb ob q=>Qb _ q;obtain⟨T,id,hT,ht,hg⟩:=hr pins { s3 with heap:=s3.heap.push { cls:=.type "slice", data:=.fields #[vl,vu,.none] } } U H3 x v vl vu l u s3.heap.objs.size Q I4 r1 (Heap.IsSliceOf.new ..) pl pu q3;show wpAny (model X.prog X.w) X.A (subscriptTail e (.Slice lo hi none p2) v (.ref s3.heap.objs.size)) (EP X pins U Q) X.xe { s3 with heap:=s3.heap.push { cls:=.type "slice", data:=.fields #[vl,vu,.none] } };exact tail_any (ops:=[.ref s3.heap.objs.size,v]) ht hT hg (by with_unfolding_all rfl)
def jT (xs:List V) (lo hi:Option Int):List V:=(xs.drop (HT.sIx xs.length 0 lo)).take (HT.sIx xs.length xs.length hi-HT.sIx xs.length 0 lo)
theorem lL (xs:List V) (lo hi:Option Int):(jT xs lo hi).length<=xs.length:=by
 unfold jT;rw[QO,XS];omega
end
def ixN (n:Nat) (i:Int):Option Nat:=if 0<=i then (if i<n then some i.toNat else none) else if -(n:Int)<=i then some (i+n).toNat else none
def atI {α:Type} (xs:List α) (i:Int):Option α:=(ixN xs.length i).bind λj=>xs[j]?
theorem jK {n:Nat} {i:Int} {j:Nat} (h:ixN n i=some j):seqIndex? i n=some j/\j<n/\-(n:Int)<=i/\i<n:=by
 unfold ixN at h;by_cases h0:0<=i
 ·rw[Qt h0]at h;by_cases h1:i<n
  ·rw[Qt h1]at h;have e:i.toNat=j:=QJ h;exact⟨by rw[seqIndex_of h0 h1,e],by omega,by omega,h1⟩
  rw[Qr h1]at h;cases h
 rw[Qr h0]at h;by_cases h1:-(n:Int)<=i
 ·rw[Qt h1]at h;have e:(i+n).toNat=j:=QJ h;exact⟨by rw[seqIndex_neg (by omega) h1,e],by omega,h1,by omega⟩
 rw[Qr h1]at h;cases h
theorem jV {α:Type} {xs:List α} {i:Int} {v:α} (h:atI xs i=some v):∃j,seqIndex? i xs.length=some j/\xs[j]?=some v/\j<xs.length/\-(xs.length:Int)<=i/\i<xs.length:=by
 unfold atI at h
 cases e:ixN xs.length i with
 | none=>rw[e]at h;cases h
 | some j =>
 rw[e]at h;obtain⟨h1,h2,h3,h4⟩:=jK e;exact⟨j,h1,h,h2,h3,h4⟩
theorem bA {α:Type} {xs:List α} {j:Nat} {v:α} (h:xs[j]?=some v):atI xs (j:Int)=some v:=by
 have hj:j<xs.length:=(Qe.mp h).1
 have e:ixN xs.length (j:Int)=some j:=by
  unfold ixN;rw[Qt (by omega),Qt (by omega)];simp
 unfold atI;rw[e];exact h
def uX (b:Expr):Prop:=∀o i,subscripted b false o i=operate [o,i] (getItem o i)
def IxR (X:Cx) (r:R2):Prop :=
 ∀(value slice:Expr) (pins:A1) (s:Shared) (U:St) (H:Hp) (x y:V) (v u:Value) (Q:VK),Inv X pins U H s->aI x v->aI y u->r x y H Q ->
  subscripted slice false v u=operate [v,u] (getItem v u)->wpAny (model X.prog X.w) X.A (subscriptTail value slice v u) (EP X pins U Q) X.xe s
def MtR (X:Cx) (id:String) (r:V->List V->Hp->VK->Prop):Prop :=
 ∀(pins:A1) (s:Shared) (U:St) (H:Hp) (x:V) (xs:List V) (v:Value) (us:List Value) (Q:VK),Inv X pins U H s->aI x v->aO xs us->r x xs H Q ->
  wpAny (model X.prog X.w) X.A (call (.builtin id) (v::us)) (EP X pins U Q) X.xe s
section
variable {X:Cx} {a b:Expr} {ta tb:TE} {pos:Pos}
theorem aq {r:R2} (hr:IxR X r) (ha:PE X a ta) (hb:PE X b tb) (hs:uX b:=by exact λ_ _=>rfl):PE X (.Subscript a b pos) (tOp r ta tb):=by
 intro pins s U H Q I h;exact Subscript_ (wP ha hb I h λv u s2 x y H2 I2 rx ry q=>hr a b pins s2 U H2 x y v u Q I2 rx ry q (hs _ _))
def tW (K:PySem.W.Frag):R2:=λx y H Q=>∃p xs i v,x=.ref p/\y=.int i/\SqL K H p xs/\atI xs i=some v/\Q v H
def rb (K:PySem.W.Frag):R2:=λx y H Q=>∃p xs i v,x=.ref p/\y=.int i/\SqT K H p xs/\atI xs i=some v/\Q v H
def xt:R2:=λx y H Q=>∃z i c,x=.str z/\y=.int i/\z.length<=sizeLine/\atI z.cps.toList i=some c/\Q (.str ⟨#[c]⟩) H
theorem aN:IxR X (tW X.K):=by
 intro value slice pins s U H x y v u Q I rx ry h hs;obtain⟨p,xs,i,z,rfl,rfl,hq,he,q⟩:=h;cases rx;obtain⟨t,rfl⟩:=ry;obtain⟨its,r,pl,hz⟩:=I.list hq;obtain⟨j,h1,h2,h3,h4,h5⟩:=jV he;obtain⟨w,ew,rw'⟩:=r.get h2;have hl:=r.length;have hn:=fU;have fin:EP X pins U Q w s:=⟨z,H,I,rw',q⟩;by_cases h0:0<=i
 ·have hj:i.toNat=j:=by
   rw[seqIndex_of h0 h5]at h1;exact QJ h1
  exact item_listR pl.isList h0 (by omega) (by rw[hj];simpa using ew) fin hs
 have hj:(i+(its.toArray.size:Int)).toNat=j:=by
  rw[seqIndex_neg (by omega) h4]at h1;rw[Qi,<-hl];exact QJ h1
 exact subscriptTail_builtinR (x:=w) pl.isList.typeIs slot_list_getitem.lookup
  (wpAny_getItem_list_neg (Q:=λr s'=>r=w/\EP X pins U Q r s') pl.isList (by omega) (by rw[Qi] <;> omega) (by omega) (by rw[hj];simpa using ew) ⟨rfl,fin⟩) hs
theorem az:IxR X (rb X.K):=by
 intro value slice pins s U H x y v u Q I rx ry h hs;obtain⟨p,xs,i,z,rfl,rfl,hq,he,q⟩:=h;cases rx;obtain⟨t,rfl⟩:=ry;obtain⟨its,r,pl,hz⟩:=I.tuple hq;obtain⟨j,h1,h2,h3,h4,h5⟩:=jV he;obtain⟨w,ew,rw'⟩:=r.get h2;have hl:=r.length;have hn:=fU;have fin:EP X pins U Q w s:=⟨z,H,I,rw',q⟩
 exact subscriptTail_builtinR (x:=w) pl.typeIs slot_tuple_getitem.lookup
  (getItem_tuple (j:=j) (Q:=λr s'=>r=w/\EP X pins U Q r s') pl (by omega) (by omega) (by rw[Qi,<-hl];exact h1) (by simpa using ew) ⟨rfl,fin⟩) hs
theorem dH:IxR X xt:=by
 intro value slice pins s U H x y v u Q I rx ry h hs;obtain⟨z,i,c,rfl,rfl,hz,he,q⟩:=h;obtain⟨t,rfl⟩:=rx;obtain⟨t',rfl⟩:=ry;obtain⟨j,h1,h2,h3,h4,h5⟩:=jV he;have hl:z.cps.toList.length=z.length:=by simp[Str.length]
 rw[hl]at h1 h4 h5;have hn:=fU
 exact tail_any (typeIs_str s z t) slot_str_getitem.lookup (getItem_str (c:=c) (by
  have e1:decide (i < -(2 ^ 63:Int))=false:=Qv (by omega);have e2:decide (i>=2 ^ 63)=false:=Qv (by omega)
  rw[e1,e2,Bool.or_false]) (by rw[h1];simpa using h2) ⟨.str ⟨#[c]⟩,H,I.tok _,⟨_,rfl⟩,q⟩) hs
theorem mN (its:List Value) (n j:Nat) (u:Value):Obj.mapSeq (·.setIfInBounds j u) { cls:=.type "list", data:=.seq its.toArray n }={ cls:=.type "list", data:=.seq (its.set j u).toArray n }:=by
 simp[Obj.mapSeq]
variable {s:Shared} {pins:A1}
theorem Inv.lst {U:St} {H:Hp} {p:Addr} {xs:List V} (I:Inv X pins U H s) (h:H p=some (.lst xs)) :
  ∃(its:List Value) (n:Nat),aO xs its/\s.heap.get? p=some { cls:=.type "list", data:=.seq its.toArray n }/\xs.length<=sizeLine:=by
 obtain⟨z,its,n,r,e⟩:=I.hok p _ h;exact⟨its,n,r,e,z⟩
theorem Inv.lstUpd {U:St} {H:Hp} {p:Addr} {xs ys:List V} {its its':List Value} {n n':Nat} {f:Obj->Obj} (I:Inv X pins U H s) (h:H p=some (.lst xs))
  (ho:s.heap.get? p=some { cls:=.type "list", data:=.seq its.toArray n }) (hf:f { cls:=.type "list", data:=.seq its.toArray n }={ cls:=.type "list", data:=.seq its'.toArray n' }) (r:aO ys its') (hz:ys.length<=sizeLine) (t:Nat) :
  Inv X pins U (upd H p (.lst ys)) { s with heap:=s.heap.update p f,toks:=t }:=by
 have e:(s.heap.update p f).get? p=some { cls:=.type "list", data:=.seq its'.toArray n' }:=by
  rw[Xe f ho (by rw[hf] <;> rfl),hf]
 refine I.write (x:=p) (e:=p) (by rw[h];trivial) (.inl rfl) (λb u hb q=>(Xg _ _ (Ne.symm hb)).trans q) ⟨_,e⟩ ?_;exact⟨hz,its',n',r,e⟩
def vj:V->V->V->Hp->(Hp->Prop)->Prop:=λo i v H Q=>∃p xs k j,o=.ref p/\i=.int k/\H p=some (.lst xs)/\ixN xs.length k=some j/\Q (upd H p (.lst (xs.set j v)))
theorem ko:yi X vj:=by
 intro pins s U H o i v ov iv u Q I ro ri rv h;obtain⟨p,xs,k,j,rfl,rfl,hp,hj,q⟩:=h;cases ro;obtain⟨t,rfl⟩:=ri;obtain⟨its,n,r,ho,hz⟩:=I.lst hp;obtain⟨h1,h2,h3,h4⟩:=jK hj;have hl:=r.length;have hn:=fU
 have I':Inv X pins U (upd H p (.lst (xs.set j v))) { s with heap:=s.heap.update p (Obj.mapSeq (·.setIfInBounds j u)) } :=
  I.lstUpd hp ho (mN its n j u) (r.set rv j) (by rw[List.length_set];exact hz) s.toks
 by_cases h0:0<=k
 ·have hk:k.toNat=j:=by
   rw[seqIndex_of h0 h4]at h1;exact QJ h1
  exact PySem.W.ki_setAt ho h0 (by omega) (by rw[Qi,<-hl];exact h4) (by rw[hk];exact⟨_,I',q⟩)
 have hk:(k+(its.toArray.size:Int)).toNat=j:=by
  rw[seqIndex_neg (by omega) h3]at h1;rw[Qi,<-hl];exact QJ h1
 exact PySem.W.ki_setBack ho (by omega) (by rw[Qi,<-hl];exact h3) (by omega) (by rw[hk];exact⟨_,I',q⟩)
theorem vg (i:Int) (n:Nat):max 0 (min (if i<0 then i+(n:Int) else i) (n:Int))=(((if i<0 then (i+(n:Int)).toNat else min i.toNat n):Nat):Int):=by
 by_cases h:i<0
 ·rw[Qt h,Qt h,Int.min_eq_left (by omega)];omega
 obtain⟨k,rfl⟩:=Int.eq_ofNat_of_zero_le (Int.not_lt.mp h);rw[Qr h,Qr h,QX];omega
theorem jo (lo hi:Option Int) (n:Nat):(sliceBounds lo hi none n).1=((HT.sIx n 0 lo:Nat):Int)/\(sliceBounds lo hi none n).2.1=((HT.sIx n n hi:Nat):Int)/\(sliceBounds lo hi none n).2.2=1:=by
 refine⟨?_,?_,rfl⟩
 ·cases lo with
  | none=>simp[sliceBounds,HT.sIx]
  | some i =>
   simp only[sliceBounds,HT.sIx,Option.getD_none,show (1:Int)>0 by decide,if_true];exact vg i n
 cases hi with
 | none=>simp[sliceBounds,HT.sIx]
 | some i =>
 simp only[sliceBounds,HT.sIx,Option.getD_none,show (1:Int)>0 by decide,if_true];exact vg i n
theorem io (its:List Value) (lo hi:Option Int):slicePick its.toArray lo hi none=((its.drop (HT.sIx its.length 0 lo)).take (HT.sIx its.length its.length hi-HT.sIx its.length 0 lo)).toArray:=by
 obtain⟨h1,h2,h3⟩:=jo lo hi its.toArray.size;unfold slicePick;rw[h1,h2,h3];simp only[sliceRange_one,pick_run,Qi] <;> rfl
def xp (K:PySem.W.Frag):V->Option Int->Option Int->Hp->VK->Prop:=λx lo hi H Q=>∃a xs,x=.ref a/\SqL K H a xs/\∀p,H p=none->Q (.ref p) (upd H p (.lst (jT xs lo hi)))
theorem nY:SlR X (xp X.K):=by
 intro pins s U H x v vl vu lo hi sl Q I rx hs pl pu h;obtain⟨a,xs,rfl,hx,q⟩:=h;cases rx;obtain⟨its,r,ht,hz⟩:=I.list hx;have hlen:=r.length;refine⟨"list", _,slot_list_getitem.lookup,ht.isList.typeIs,?_⟩;refine wpAny_getItem_list_slice ht.isList hs pl pu .none (by simp) ?_ (by rw[Qi] <;> omega);rw[io,<-hlen];refine⟨.ref s.heap.objs.size,_,I.laid (t':=s.toks) (o:=.lst (jT xs lo hi)) (λb ob q=>Qb _ q) (Qg _) ?_,rfl,q _ (I.hok.fresh (Qg _))⟩;exact⟨QG (lL xs lo hi) hz,_,0,(r.drop (HT.sIx xs.length 0 lo)).take (HT.sIx xs.length xs.length hi-HT.sIx xs.length 0 lo),Qq _ rfl⟩
def cu:V->Bool
 | .non=>true
 | .bl _=>true
 | .int _=>true
 | .str _=>true
 | _=>false
def eqV:V->V->Bool
 | .non,.non=>true
 | .bl a,.bl b=>a==b
 | .bl a,.int b=>(if a then 1 else 0)==b
 | .int a,.bl b=>a==(if b then 1 else 0)
 | .int a,.int b=>a==b
 | .str a,.str b=>a==b
 | _,_=>false
variable {u v:Value}
theorem sY {A:Around} {y x:V} (ry:aI y u) (rx:aI x v) (fy:cu y=true) (fx:cu x=true):SeqAt.EqAt A s u v (eqV y x):=by
 cases y with
 | non =>
  cases ry
  cases x with
  | non=>cases rx;exact SeqAt.EqAt.same _
  | bl b=>cases rx;exact SeqAt.EqAt.none_bool b
  | int b=>obtain⟨t,rfl⟩:=rx;exact SeqAt.EqAt.none_int b t
  | str b=>obtain⟨t,rfl⟩:=rx;exact SeqAt.EqAt.none_str b t
  | _=>exact absurd (show false=true from fx) Qm
 | bl a =>
  cases ry
  cases x with
  | non=>cases rx;exact SeqAt.EqAt.bool_none a
  | bl b=>cases rx;exact SeqAt.EqAt.bool_bool a b
  | int b=>obtain⟨t,rfl⟩:=rx;exact SeqAt.EqAt.bool_int a b t
  | str b=>obtain⟨t,rfl⟩:=rx;exact SeqAt.EqAt.bool_str a b t
  | _=>exact absurd (show false=true from fx) Qm
 | int a =>
  obtain⟨t',rfl⟩:=ry
  cases x with
  | non=>cases rx;exact SeqAt.EqAt.int_none a t'
  | bl b=>cases rx;exact SeqAt.EqAt.int_bool a t' b
  | int b=>obtain⟨t,rfl⟩:=rx;exact SeqAt.EqAt.int_int a t' b t
  | str b=>obtain⟨t,rfl⟩:=rx;exact SeqAt.EqAt.int_str a t' b t
  | _=>exact absurd (show false=true from fx) Qm
 | str a =>
  obtain⟨t',rfl⟩:=ry
  cases x with
  | non=>cases rx;exact SeqAt.EqAt.str_none a t'
  | bl b=>cases rx;exact SeqAt.EqAt.str_bool a t' b
  | int b=>obtain⟨t,rfl⟩:=rx;exact SeqAt.EqAt.str_int a t' b t
  | str b=>obtain⟨t,rfl⟩:=rx;exact SeqAt.EqAt.str_str a t' b t
  | _=>exact absurd (show false=true from fx) Qm
 | _=>exact absurd (show false=true from fy) Qm
def eqU (x:V) (u:Value):Bool:=match u with
 | .none=>eqV .non x
 | .bool b=>eqV (.bl b) x
 | .int i _=>eqV (.int i) x
 | .str z _=>eqV (.str z) x
 | _=>false
theorem sX {x y:V} (r:aI y u) (f:cu y=true):eqU x u=eqV y x:=by
 cases y with
 | non=>cases r;rfl
 | bl b=>cases r;rfl
 | int i=>obtain⟨t,rfl⟩:=r;rfl
 | str z=>obtain⟨t,rfl⟩:=r;rfl
 | _=>exact absurd (show false=true from f) Qm
theorem jY {x:V}:∀{xs:List V} {us:List Value},aO xs us->xs.all cu=true->us.any (eqU x)=xs.any λy=>eqV y x
 | _,_,.nil,_=>rfl
 | y::xs,u::us,.cons r t,f=>by
  rw[List.all_cons,Xz]at f;rw[List.any_cons,List.any_cons,sX r f.1,jY t f.2]
theorem gQ {A:Around} {s:Shared} {x:V} {v:Value} (rx:aI x v) (fx:cu x=true):∀{xs:List V} {us:List Value},aO xs us->xs.all cu=true->∀u∈us,SeqAt.EqAt A s u v (eqU x u)
 | _,_,.nil,_=>λu hu=>by cases hu
 | y::xs,u::us,.cons r t,f=>λu' hu=>by
  rw[List.all_cons,Xz]at f;rcases Qh.mp hu with rfl|hu
  ·rw[sX r f.1];exact sY r rx f.1 fx
  exact gQ rx fx t f.2 u' hu
def inV (x:V) (xs:List V):Bool:=xs.any λy=>eqV y x
def rIn (K:PySem.W.Frag) (neg:Bool):R2:=λx y H Q=>∃p xs,y=.ref p/\(SqL K H p xs\/SqT K H p xs)/\cu x=true/\xs.all cu=true/\Q (.bl (if neg then !inV x xs else inV x xs)) H
theorem iR:OpR X (compareOp .In) (rIn X.K false):=by
 intro pins s U H x y v u Q I rx ry h;obtain⟨p,xs,rfl,hq,fx,fs,q⟩:=h;cases ry;rcases hq with hq|hq
 ·obtain⟨its,r,pl,hz⟩:=I.list hq;refine SeqAt.in_listAt (eqU x) pl.isList (λw hw=>gQ rx fx r fs w (by simpa using hw)) ⟨.bl _,H,I,rfl,?_⟩;rw[show its.toArray.any (eqU x)=its.any (eqU x) by simp,jY r fs];exact q
 obtain⟨its,r,pl,hz⟩:=I.tuple hq;refine SeqAt.in_tupleAt (eqU x) pl (λw hw=>gQ rx fx r fs w (by simpa using hw)) ⟨.bl _,H,I,rfl,?_⟩;rw[show its.toArray.any (eqU x)=its.any (eqU x) by simp,jY r fs];exact q
theorem aK:dR X (.builtin "len") (λxs H Q=>∃p ys,xs=[.ref p]/\(SqL X.K H p ys\/SqT X.K H p ys)/\Q (.int ys.length) H):=by
 intro pins s U H xs us Q I r h;obtain⟨p,ys,rfl,hq,q⟩:=h;obtain⟨u,rfl,rx⟩:=c9 r;cases rx;have hn:=fU;rcases hq with hq|hq
 ·obtain⟨its,r',pl,hz⟩:=I.list hq;have hlen:=r'.length;exact Calls.call_len_list pl.isList (by simp only[Qi] <;> omega) ⟨.int ys.length,H,I.tok _,⟨s.toks+1,by rw[Qi,hlen]⟩,q⟩
 obtain⟨its,r',pl,hz⟩:=I.tuple hq;have hlen:=r'.length;exact len_tuple pl (by simp only[Qi] <;> omega) ⟨.int ys.length,H,I.tok _,⟨s.toks+1,by rw[Qi,hlen]⟩,q⟩
theorem jU:dR X (.builtin "len") (λxs H Q=>∃z,xs=[.str z]/\z.length<=sizeLine/\Q (.int z.length) H):=by
 intro pins s U H xs us Q I r h;obtain⟨z,rfl,hz,q⟩:=h;obtain⟨u,rfl,t,rfl⟩:=c9 r;have hn:=fU;exact len_str (by omega) ⟨.int z.length,H,I.tok _,⟨_,rfl⟩,q⟩
theorem dL:dR X (.type "list") (λxs H Q=>∃p ys,xs=[.ref p]/\(SqL X.K H p ys\/SqT X.K H p ys)/\∀l,H l=none->Q (.ref l) (upd H l (.lst ys))):=by
 intro pins s U H xs us Q I r h;obtain⟨p,ys,rfl,hq,q⟩:=h;obtain⟨u,rfl,rx⟩:=c9 r;cases rx
 have fin:∀(its:List Value),aO ys its->ys.length<=sizeLine->∀(h':Heap) (c':Nat),(∀b o',s.heap.get? b=some o'->h'.get? b=some o') ->
   h'.get? s.heap.objs.size=some { cls:=.type "list", dict:=none,data:=.seq its.toArray c',slots:=#[] }->EP X pins U Q (.ref s.heap.objs.size) { s with heap:=h' }:=λits r' hz h' c' kp e =>
  ⟨.ref s.heap.objs.size,_,I.laid (t':=s.toks) kp (Qg _) (show bo X.prog X.w _ h' _ (.lst ys) from⟨hz,its,c',r',e⟩),rfl,q _ (I.hok.fresh (Qg _))⟩
 rcases hq with hq|hq
 ·obtain⟨its,r',pl,hz⟩:=I.list hq;have hlen:=r'.length;obtain⟨o,ho,hc,n,hd⟩:=pl.isList;exact call_list_seq p (.inl rfl) ho hc hd (λh' c' kp e=>fin its r' hz h' c' kp e) (by simp only[Qi] <;> omega)
 obtain⟨its,r',pl,hz⟩:=I.tuple hq;have hlen:=r'.length;obtain⟨o,ho,hc,n,hd⟩:=pl;exact call_list_seq p (.inr rfl) ho hc hd (λh' c' kp e=>fin its r' hz h' c' kp e) (by simp only[Qi] <;> omega)
theorem cI:dR X (.type "tuple") (λxs H Q=>∃p ys,xs=[.ref p]/\((SqL X.K H p ys/\∀l,H l=none->Q (.ref l) (upd H l (.tup ys)))\/(SqT X.K H p ys/\Q (.ref p) H))):=by
 intro pins s U H xs us Q I r h;obtain⟨p,ys,rfl,h⟩:=h;obtain⟨u,rfl,rx⟩:=c9 r;cases rx;rcases h with⟨hq,q⟩|⟨hq,q⟩
 ·obtain⟨its,r',pl,hz⟩:=I.list hq;have hlen:=r'.length;refine call_tuple_list pl.isList (λh' kp=>?_) (by simp only[Qi] <;> omega);have I1:Inv X pins U H { s with heap:=h' }:=I.kept (t':=s.toks) kp
  have I2:Inv X pins U (upd H h'.objs.size (.tup ys)) { s with heap:=h'.push { cls:=.type "tuple", data:=.seq its.toArray } } :=
   I1.laid (t':=s.toks) (λb o e=>Qb _ e) (Qg _) (show bo X.prog X.w _ _ _ (.tup ys) from⟨hz,its,r',IsTup.new _ _⟩)
  exact⟨.ref h'.objs.size,_,I2,rfl,q _ (I1.hok.fresh (Qg _))⟩
 obtain⟨its,r',pl,hz⟩:=I.tuple hq;exact call_tuple_same pl ⟨.ref p,H,I,rfl,q⟩
def tyV (K:PySem.W.Frag) (T:String) (x:V) (H:Hp):Prop:=match x with
 | .str _=>T = "str"
 | .int _=>T = "int"
 | .ref p=>(T = "list" /\ ∃xs,SqL K H p xs)\/(T = "tuple" /\ ∃o,K.lookup p=some o/\o.cls=.type "tuple" /\ o.dict=none) \/
   (T = "dict" /\ ((∃kvs,H p=some (.dK kvs))\/∃kvs,H p=some (.dT kvs)))\/(T = "set" /\ ∃S n,H p=some (.set S n))
 | _=>False
theorem vL {U:St} {H:Hp} {T:String} {x:V} (I:Inv X pins U H s) (r:aI x v) (ty:tyV X.K T x H) :
  s.TypeIs v T/\∀a,v=.ref a->∃ob,s.heap.get? a=some ob/\ob.dict=none:=by
 cases x with
 | str z =>
  obtain⟨t,rfl⟩:=r;cases (show T = "str" from ty);exact⟨typeIs_str s z t,λ_ e=>nomatch e⟩
 | int i =>
  obtain⟨t,rfl⟩:=r;cases (show T = "int" from ty);exact⟨typeIs_int s i t,λ_ e=>nomatch e⟩
 | ref p =>
  cases r;rcases ty with⟨rfl,xs,hq⟩|⟨rfl,o,hk,hc,hd⟩|⟨rfl,hk⟩|⟨rfl,S,n,hk⟩
  ·obtain⟨its,_,pl,_⟩:=I.list hq;refine⟨pl.isList.typeIs,λa e=>?_⟩;cases e;obtain⟨o,n,e,c,hd,_⟩:=pl;exact⟨o,e,hd⟩
  ·refine⟨⟨o,I.kIn p o hk,hc⟩,λa e=>?_⟩;cases e;exact⟨o,I.kIn _ o hk,hd⟩
  ·have z:∃o,s.heap.get? p=some o/\o.ExactDict:=by
    rcases hk with⟨kvs,hk⟩|⟨kvs,hk⟩
    ·obtain⟨_,_,_,_,o,_,_,e,ex,_⟩:=I.hok p _ hk;exact⟨o,e,ex⟩
    obtain⟨_,_,_,_,o,_,_,e,ex,_⟩:=I.hok p _ hk;exact⟨o,e,ex⟩
   obtain⟨o,e,ex⟩:=z;refine⟨⟨o,e,ex.1⟩,λa e2=>?_⟩;cases e2;exact⟨o,e,ex.2.1⟩
  obtain⟨o,_,_,_,e,ex,_⟩:=I.hok p _ hk;refine⟨⟨o,e,ex.1⟩,λa e2=>?_⟩;cases e2;exact⟨o,e,ex.2.1⟩
 | _=>exact False.elim ty
def tBM (K:PySem.W.Frag) (T:String) (r:V->List V->Hp->VK->Prop) (to:TE) (t:TA):TE:=λU H Q=>to U H λx H1=>tyV K T x H1/\t U H1 λxs H2=>r x xs H2 Q
variable {o e:Expr} {es:List Expr} {to:TE} {t:TA} {name:Str} {apos cpos:Pos} {T id:String} {r:V->List V->Hp->VK->Prop}
theorem bE (pa:PlainAttrs T) (slot:Slot T name id) (hty:typeOf (.builtin id)=pure (.type "method_descriptor")) (hm:MtR X id r) (ho:PE X o to) (ha:PA X (e::es) t)
  (hbase:attributeBase o name X.env (eval o X.env)=eval o X.env:=by rfl)
  (hfew:((backTo cpos (starEach (e::es) X.env)).all (fun x=>!x.1)&&(backToKw cpos (keywordEach [] X.env)).all (fun x=>x.1.isSome)
   && decide ((e::es).length+([]:List Keyword).length+(if ([]:List Keyword).isEmpty then 0 else 1)<30))=true:=by rfl)
  (hline:(apos.endLine==cpos.line)=true:=by rfl) (hs:starEach (e::es) X.env=(false,eval e X.env)::starEach es X.env:=by rfl) (hplain:(backTo cpos (starEach es X.env)).any (·.1)=false:=by rfl) :
  PE X (.Call (.Attribute o name apos) (e::es) [] cpos) (tBM X.K T r to t):=by
 intro pins s U H Q I h;refine wpAny_Call_method_late hbase hfew hline rfl (thn (ho pins s U H _ I h) λv s1 ⟨x,H1,I1,r1,ty,q1⟩=>?_);obtain⟨h1,h2⟩:=vL I1 r1 ty;refine⟨T,id,pa,slot,hty,h1,h2,?_⟩;have hA:=ha cpos pins s1 U H1 _ I1 q1;rw[hs]at hA ⊢;refine Calls.callWith_builtin (by show (false || (backTo cpos (starEach es X.env)).any (·.1))=false;rw[hplain] <;> rfl) (Calls.evalArgs_plain ?_);exact thn hA λus s2 ⟨vs,H2,I2,r2,q2⟩=>hm pins s2 U H2 x vs v us Q I2 r1 r2 q2
end
def MtM (X:Cx) (id:String) (r:V->List V->Hp->VK->Prop):Prop :=
 ∀(pins:A1) (s:Shared) (U:St) (H:Hp) (x:V) (xs:List V) (v:Value) (us:List Value) (Q:VK),Inv X pins U H s->aI x v->aO xs us->r x xs H Q ->
  wpAny (model X.prog X.w) X.A (call (.builtin id) (v::us)) (EP X pins U Q) X.xe s
theorem aO.one:∀{x:V} {us:List Value},aO [x] us->∃u,us=[u]/\aI x u
 | _,_,.cons r .nil=>⟨_,rfl,r⟩
theorem aO.two:∀{x y:V} {us:List Value},aO [x,y] us->∃u v,us=[u,v]/\aI x u/\aI y v
 | _,_,_,.cons r (.cons q .nil)=>⟨_,_,rfl,r,q⟩
theorem aO.eraseIdx:∀{xs:List V} {us:List Value} (i:Nat),aO xs us->aO (xs.eraseIdx i) (us.eraseIdx i)
 | _,_,_,.nil=>.nil
 | _,_,0,.cons _ t=>t
 | _,_,i+1,.cons r t=>.cons r (aO.eraseIdx i t)
theorem fV {α:Type}:∀(l:List α) (i:Nat),(l.eraseIdx i).length<=l.length
 | [],_=>Qg _
 | _::_,0=>XN _
 | _::r,i+1=>Nat.succ_le_succ (fV r i)
section
variable {X:Cx} {pins:A1} {U:St} {H:Hp} {s:Shared} {l b:Addr} {xs ys zs:List V}
theorem Inv.lset {its its':List Value} {n:Nat} {f:Array Value->Array Value} {t':Nat} (I:Inv X pins U H s) (hH:H l=some (.lst xs))
  (e:s.heap.get? l=some { cls:=.type "list", data:=.seq its.toArray n }) (hf:f its.toArray=its'.toArray) (hv:aO ys its') (hz:ys.length<=sizeLine) :
  Inv X pins U (upd H l (.lst ys)) { s with heap:=s.heap.update l (Obj.mapSeq f),toks:=t' }:=by
 have q:=PySem.IsL.update e f;rw[hf]at q;refine I.write (x:=l) (e:=l) (by rw[hH];exact trivial) (.inl rfl) (λb' u hb hu=>(Xg s.heap (Obj.mapSeq f) (Ne.symm hb)).trans hu) ⟨_,q⟩ ?_;exact⟨hz,its',_,hv,q⟩
theorem Inv.lnew {its:List Value} {t':Nat} (I:Inv X pins U H s) (hv:aO ys its) (hz:ys.length<=sizeLine) :
  Inv X pins U (upd H s.heap.objs.size (.lst ys)) { s with heap:=s.heap.push { cls:=.type "list", data:=.seq its.toArray },toks:=t' } :=
 I.laid (λ_ _ q=>Qb _ q) (Qg _) ⟨hz,its,0,hv,Qq _ rfl⟩
theorem Inv.fresh (I:Inv X pins U H s):H s.heap.objs.size=none:=I.hok.fresh (Qg _)
theorem Inv.lstM (I:Inv X pins U H s) (hH:H l=some (.lst xs)):xs.length<=sizeLine/\∃(its:List Value) (n:Nat),aO xs its/\xs.length=its.length/\s.heap.get? l=some { cls:=.type "list", data:=.seq its.toArray n }:=by
 obtain⟨z,its,n,r,e⟩:=I.hok l _ hH;exact⟨z,its,n,r,r.length,e⟩
end
section
variable {X:Cx}
def oj:V->List V->Hp->VK->Prop:=λx vs H Q=>∃l xs y,x=.ref l/\vs=[y]/\H l=some (.lst xs)/\xs.length<sizeLine/\Q .non (upd H l (.lst (xs++[y])))
theorem bj:MtM X "list.append" oj:=by
 intro pins s U H x vs v us Q I rx rv h;obtain⟨l,xs,y,rfl,rfl,hH,hz,q⟩:=h;cases rx;obtain⟨u,rfl,ru⟩:=rv.one;obtain⟨z,its,n,r,hl,e⟩:=I.lstM hH;refine call_meets F.slot_list_append ⟨_,e,rfl⟩ F.entry_list_append (F.args_list_append_2 _ _) (PySem.list_append l its.toArray n u (by rw[Qi];omega)) ⟨e,?_⟩;refine⟨.non,_,I.lset (its':=its++[u]) hH e (by simp) (r.append (.cons ru .nil)) ?_,rfl,q⟩;rw[Qn,QT];omega
def vY:V->List V->Hp->VK->Prop:=λx vs H Q=>∃l xs i k y,x=.ref l/\vs=[.int i]/\H l=some (.lst xs)/\-(2 ^ 63)<=i/\i<2 ^ 63/\seqIndex? i xs.length=some k/\xs[k]?=some y/\Q y (upd H l (.lst (xs.eraseIdx k)))
theorem rZ:MtM X "list.pop" vY:=by
 intro pins s U H x vs v us Q I rx rv h;obtain⟨l,xs,i,k,y,rfl,rfl,hH,h1,h2,hk,hy,q⟩:=h;cases rx;obtain⟨u,rfl,ru⟩:=rv.one;obtain⟨t,rfl⟩:=ru;obtain⟨z,its,n,r,hl,e⟩:=I.lstM hH;obtain⟨w,hw,rw'⟩:=r.get hy
 refine call_meets F.slot_list_pop ⟨_,e,rfl⟩ F.entry_list_pop (F.args_list_pop_2 _ _)
  (MeetsSeq.list_pop_at l its.toArray n i t k w (fitsIndex_both h1 h2) (by rw[Qi,<-hl];exact hk) (by rw[<-Q2];exact hw) (by rw[Qi];omega)) ⟨e,?_⟩
 refine⟨y,_,I.lset (its':=its.eraseIdx k) hH e ?_ (r.eraseIdx k) ?_,rw',q⟩
 ·show its.toArray.eraseIdxIfInBounds k=(its.eraseIdx k).toArray;rw[List.eraseIdxIfInBounds_toArray]
 have:=fV xs k;omega
def v3:R2:=λx y H Q=>∃l b xs zs,x=.ref l/\y=.ref b/\H l=some (.lst xs)/\H b=some (.lst zs)/\xs.length+zs.length<=sizeLine/\∀p,H p=none->Q (.ref p) (upd H p (.lst (xs++zs)))
theorem dm:OpR X (binaryOp .Add) v3:=by
 intro pins s U H x y v u Q I rx ry h;obtain⟨l,b,xs,zs,rfl,rfl,hH,hB,hz,q⟩:=h;cases rx;cases ry;obtain⟨z,its,n,r,hl,e⟩:=I.lstM hH;obtain⟨z2,its2,n2,r2,hl2,e2⟩:=I.lstM hB;refine PySem.P.add_list e e2 ?_ (by rw[Qi,Qi];omega);have ea:its.toArray++its2.toArray=(its++its2).toArray:=by simp
 rw[ea];exact⟨.ref _,_,I.lnew (t':=s.toks) (r.append r2) (by rw[Qn];omega),rfl,q _ I.fresh⟩
end
section
variable {prog:Program} {w:World} {A:Around} {E:A0} {s:Shared}
end
section
variable {X:Cx}
end
section
variable {κ:Type} [DecidableEq κ]
def aQ (kvs:List (κ × V)) (k:κ):Option V:=(kvs.find? λkv=>decide (kv.1=k)).map (·.2)
def bh (kvs:List (κ × V)) (k:κ) (v:V):List (κ × V) :=
 if (kvs.any λkv=>decide (kv.1=k))=true then kvs.map (λkv=>if kv.1=k then (kv.1,v) else kv) else kvs++[(k,v)]
variable {r kvs:List (κ × V)}
theorem br {p:κ × V} {k:κ} (e:p.1=k):aQ (p::r) k=some p.2:=by simp[aQ,List.find?_cons,e]
theorem bu {p:κ × V} {k:κ} (e:¬p.1=k):aQ (p::r) k=aQ r k:=by simp[aQ,List.find?_cons,e]
theorem cJ (k:κ):∀kvs:List (κ × V),(kvs.any λkv=>decide (kv.1=k))=(aQ kvs k).isSome
 | []=>rfl
 | p::r=>by
  rw[List.any_cons];by_cases e:p.1=k
  ·simp only[br e,Qx e,Bool.true_or,Option.isSome_some]
  rw[bu e,Qv e,Bool.false_or];exact cJ k r
theorem kc (k j:κ) (y:V):∀kvs:List (κ × V),aQ (kvs.map λkv=>if kv.1=k then (kv.1,y) else kv) j=(aQ kvs j).map λx=>if j=k then y else x
 | []=>rfl
 | p::r=>by
  have ih:=kc k j y r;rw[Qu];by_cases h:p.1=k
  ·rw[Qt h];by_cases e:p.1=j
   ·rw[br (p:=(p.1,y)) e,br e,Option.map_some,Qt (e.symm.trans h)]
   rw[bu (p:=(p.1,y)) e,bu e,ih]
  rw[Qr h];by_cases e:p.1=j
  ·rw[br (p:=p) e,br e,Option.map_some,Qr (λz=>h (e.trans z))]
  rw[bu (p:=p) e,bu e,ih]
theorem iC (k j:κ) (y:V):∀kvs:List (κ × V),aQ kvs k=none->aQ (kvs++[(k,y)]) j=if j=k then some y else aQ kvs j
 | [],_=>by
  by_cases e:k=j
  ·rw[Qt e.symm];exact br (p:=(k,y)) e
  rw[Qr (λz=>e z.symm)];exact bu (p:=(k,y)) e
 | p::r,hn=>by
  rw[List.cons_append];have hk:¬p.1=k:=λz=>by rw[br z]at hn;cases hn
  rw[bu hk]at hn;have ih:=iC k j y r hn;by_cases e:p.1=j
  ·rw[br e,br e,Qr (λz=>hk (e.trans z))]
  rw[bu e,bu e,ih]
theorem b9 (kvs:List (κ × V)) (k j:κ) (y:V):aQ (bh kvs k y) j=if j=k then some y else aQ kvs j:=by
 unfold bh;by_cases a:(kvs.any λkv=>decide (kv.1=k))=true
 ·rw[Qt a,kc];rw[cJ]at a;by_cases e:j=k
  ·obtain⟨x,hx⟩:=Option.isSome_iff_exists.mp a;rw[Qt e,e,hx,Option.map_some,Qt rfl]
  rw[Qr e]
  cases aQ kvs j with
  | none=>rfl
  | some x=>rw[Option.map_some,Qr e]
 rw[Qr a];refine iC k j y kvs ?_;rw[cJ]at a
 cases q:aQ kvs k with
 | none=>rfl
 | some x=>rw[q]at a;exact(a rfl).elim
theorem bC (kvs:List (κ × V)) (k:κ) (v:V):(bh kvs k v).length<=kvs.length+1:=by
 unfold bh
 split
 ·rw[Qd];omega
 rw[Qn,Xp,List.length_nil];omega
theorem dY {k:κ} (v:V) (h:aQ kvs k=none):bh kvs k v=kvs++[(k,v)]:=by
 unfold bh;rw[cJ,h];exact Qr (by decide)
theorem fH.isSome_eq {o:Option V} {u:Option Value} (r:fH o u):o.isSome=u.isSome:=by
 cases o with
 | none=>cases u with
  | none=>rfl
  | some _=>exact(show False from r).elim
 | some _=>cases u with
  | none=>exact(show False from r).elim
  | some _=>rfl
theorem fH.getD {o:Option V} {u:Option Value} {d:V} {d':Value} (r:fH o u) (rd:aI d d'):aI (o.getD d) (u.getD d'):=by
 cases o with
 | none=>cases u with
  | none=>exact rd
  | some _=>exact(show False from r).elim
 | some _=>cases u with
  | none=>exact(show False from r).elim
  | some _=>exact r
variable {vs:List (κ × Value)}
theorem KV.val (r:KV kvs vs) (k:κ):fH (aQ kvs k) (valueAt vs k):=by
 unfold KV at r
 induction r with
 | nil=>exact True.intro
 | @cons p q ps qs h t ih =>
 obtain⟨h1,h2⟩:=h;by_cases e:p.1=k
 ·have e':q.1=k:=h1.symm.trans e;have b:valueAt (q::qs) k=some q.2:=by simp[valueAt,List.find?_cons,e']
  rw[br e,b];exact h2
 have e':¬q.1=k:=λz=>e (h1.trans z);have b:valueAt (q::qs) k=valueAt qs k:=by simp[valueAt,List.find?_cons,e']
 rw[bu e,b];exact ih
theorem KV.any (r:KV kvs vs) (k:κ):(kvs.any λkv=>decide (kv.1=k))=vs.any λkv=>decide (kv.1=k):=by
 unfold KV at r
 induction r with
 | nil=>rfl
 | cons h t ih=>rw[List.any_cons,List.any_cons,ih,h.1]
theorem KV.repl (r:KV kvs vs) (k:κ) {y:V} {u:Value} (ry:aI y u) :
  KV (kvs.map λkv=>if kv.1=k then (kv.1,y) else kv) (vs.map λkv=>if kv.1=k then (kv.1,u) else kv):=by
 unfold KV at r ⊢
 induction r with
 | nil=>exact .nil
 | @cons p q ps qs h t ih =>
 rw[Qu,Qu];refine .cons ?_ ih;obtain⟨h1,h2⟩:=h;by_cases e:p.1=k
 ·rw[Qt e,Qt (h1.symm.trans e)];exact⟨h1,ry⟩
 rw[Qr e,Qr (λz=>e (h1.trans z))];exact⟨h1,h2⟩
theorem KV.put (r:KV kvs vs) (k:κ) {y:V} {u:Value} (ry:aI y u):KV (bh kvs k y) (stored vs k u):=by
 unfold bh stored;rw[r.any k];by_cases e:(vs.any λkv=>decide (kv.1=k))=true
 ·rw[Qt e,Qt e];exact r.repl k ry
 rw[Qr e,Qr e];exact Paired.snoc r ⟨rfl,ry⟩
theorem KV.length (r:KV kvs vs):kvs.length=vs.length:=Xi r
end
variable {u:Value}
theorem fB {P:Program} {w:World} {k:Key} (r:aI (kV k) u):(au P w).is k u=true:=by
 cases k with
 | inl i=>obtain⟨t,e⟩:=(show ∃t,u=Value.int i t from r);subst e;exact k9 P w i t
 | inr x=>obtain⟨t,e⟩:=(show ∃t,u=Value.str x t from r);subst e;exact f7 P w x t
theorem sE {a b:Key} (e:kV a=kV b):a=b:=by
 cases a with
 | inl i=>cases b with
  | inl j=>have e':V.int i=V.int j:=e;injection e' with e';rw[e']
  | inr y=>exact nomatch (show V.int i=V.str y from e)
 | inr x=>cases b with
  | inl j=>exact nomatch (show V.str x=V.int j from e)
  | inr y=>have e':V.str x=V.str y:=e;injection e' with e';rw[e']
theorem jJ:∀{a b:List Key},a.map kV=b.map kV->a=b
 | [],[],_=>rfl
 | [],_::_,e=>by simp at e
 | _::_,[],e=>by simp at e
 | x::xs,y::ys,e=>by
  rw[Qu,Qu]at e;injection e with e1 e2;rw[sE e1,jJ e2]
theorem iZ {P:Program} {w:World}:∀{ks:List Key} {us:List Value},aO (ks.map kV) us->ItemsAre (au P w) ks us
 | [],_,r=>by rw[List.map_nil]at r;cases r;exact .nil
 | k::ks,_,r=>by
  rw[Qu]at r
  cases r with
  | cons h t=>exact .cons (fB h) (iZ t)
abbrev KT (H:Hp):List (av × V)->List (av × Addr × Value)->Prop:=Paired λp q=>p.1=q.1/\bK H p.1 q.2.1/\aI p.2 q.2.2
variable {xs:List (av × Addr × Value)} {kvs:List (av × V)} {H H':Hp}
theorem KT.val (r:KT H kvs xs) (k:av):fH (aQ kvs k) ((atKey xs k).map (·.2)):=by
 induction r with
 | nil=>exact True.intro
 | @cons p q ps qs h t ih =>
 obtain⟨h1,_,h2⟩:=h;by_cases e:p.1=k
 ·have e':q.1=k:=h1.symm.trans e;have b:atKey (q::qs) k=some q.2:=by simp[atKey,List.find?_cons,e']
  rw[br e,b];exact h2
 have e':¬q.1=k:=λz=>e (h1.trans z);have b:atKey (q::qs) k=atKey qs k:=by simp[atKey,List.find?_cons,e']
 rw[bu e,b];exact ih
theorem KT.repl (r:KT H kvs xs) (k:av) {y:V} (ry:aI y u) :
  KT H (kvs.map λkv=>if kv.1=k then (kv.1,y) else kv) (xs.map (putAt k u)):=by
 induction r with
 | nil=>exact .nil
 | @cons p q ps qs h t ih =>
 rw[Qu,Qu];refine .cons ?_ ih;obtain⟨h1,h2,h3⟩:=h;unfold putAt;by_cases e:p.1=k
 ·rw[Qt e,Qt (h1.symm.trans e)];exact⟨h1,h2,ry⟩
 rw[Qr e,Qr (λz=>e (h1.trans z))];exact⟨h1,h2,h3⟩
variable {b a:Addr}
theorem KT.put (r:KT H kvs xs) (k:av) {y:V} (hb:bK H k b) (ry:aI y u) :
  KT H (bh kvs k y) (storedH xs k b u):=by
 have e:(kvs.any λkv=>decide (kv.1=k))=(atKey xs k).isSome:=by
  rw[cJ,(r.val k).isSome_eq,Option.isSome_map]
 unfold bh storedH;rw[e];by_cases q:(atKey xs k).isSome=true
 ·rw[Qt q,Qt q];exact r.repl k ry
 rw[Qr q,Qr q];exact Paired.snoc r ⟨rfl,hb,ry⟩
theorem KT.keeps (r:KT H kvs xs) (ht:∀b ys,H b=some (.tup ys)->H' b=some (.tup ys)):KT H' kvs xs :=
 Paired.mapP r λ_ _ z=>⟨z.1,z.2.1.keeps ht,z.2.2⟩
section
variable {P:Program} {w:World} {H:Hp} {h:Heap} {a:Addr}
theorem qY {u:HO} (ok:HOk P w H h) (e:Rd H a u):bo P w H h a u:=e.ok ok
variable {kvs:List (Key × V)}
theorem hV (ok:HOk P w H h) (e:Rd H a (.dK kvs)):kvs.length<=sizeLine/\(a==sysModules)=false/\∃vs,KV kvs vs/\h.DictOf (au P w) a vs :=
 show bo P w H h a (.dK kvs) from qY ok e
theorem s_ (ok:HOk P w H h) (e:H a=some (.dK kvs)):kvs.length<=sizeLine/\(a==sysModules)=false/\∃vs,KV kvs vs/\h.DictOf (au P w) a vs:=hV ok (.inl e)
theorem lu (ok:HOk P w H h):∀{ks:av} {vs:List V} {its:List Value},Paired (KIt H) ks vs->aO vs its->TK.Its (au P w) h ks its
 | _,_,_,.nil,.nil=>.nil
 | k::_,_,_,.cons q t,.cons rv r=>.cons (by
   cases k with
   | inl k=>cases q;exact fB rv
   | inr ks =>
   obtain⟨c,rfl,q⟩:=q;obtain⟨_,its,r,o,h1,h2,n,h3⟩:=(show bo P w H h c (.tup (ks.map kV)) from ok c _ q)
   exact⟨c,rv,o,its.toArray,n,h1,h2,h3,by simpa using iZ r⟩) (lu ok t r)
theorem cX {ks:av} (ok:HOk P w H h) (e:bK H ks a):(bg P w).is h ks a:=by
 obtain⟨vs,e,pr⟩:=e;obtain⟨_,its,r,o,h1,h2,n,h3⟩:=(show bo P w H h a (.tup vs) from ok a _ e);exact⟨o,its.toArray,n,h1,h2,h3,by simpa using lu ok pr r⟩
theorem hU {kvs:List (av × V)} (ok:HOk P w H h) (e:Rd H a (.dT kvs)):kvs.length<=sizeLine/\(a==sysModules)=false /\
  ∃xs,KT H kvs xs/\h.DictOfH (bg P w) a xs:=by
 obtain⟨z,y,xs,r,o,es,ep,h1,h2,h3,h4,h5⟩:=(show bo P w H h a (.dT kvs) from qY ok e);refine⟨z,y,xs,r,o,es,ep,h1,h2,h3,h4,λx hx=>?_,h5⟩
 have all:∀{l:List (av × V)} {m:List (av × Addr × Value)},KT H l m->∀x∈m,(bg P w).is h x.1 x.2.1:=by
  intro l m q
  induction q with
  | nil=>intro x hx;exact nomatch hx
  | @cons p q ps qs hq t ih =>
  intro x hx;rcases Qh.mp hx with e|hx
  ·subst e;exact cX ok (by rw[<-hq.1];exact hq.2.1)
  exact ih x hx
 exact all r x hx
theorem vE {kvs:List (av × V)} (ok:HOk P w H h) (e:H a=some (.dT kvs)):kvs.length<=sizeLine/\(a==sysModules)=false /\
  ∃xs,KT H kvs xs/\h.DictOfH (bg P w) a xs:=hU ok (.inl e)
end
def cw (H:Hp) (a:Addr) (y:V) (r:Option V):Prop :=
 (∃kvs k,Rd H a (.dK kvs)/\y=kV k/\r=aQ kvs k)\/∃kvs k b,Rd H a (.dT kvs)/\y=.ref b/\bK H k b/\r=aQ kvs k
def fb (H:Hp) (a:Addr) (y v:V) (H':Hp):Prop :=
 (∃kvs k,H a=some (.dK kvs)/\y=kV k/\kvs.length<sizeLine/\H'=upd H a (.dK (bh kvs k v))) \/
 ∃kvs k b,H a=some (.dT kvs)/\y=.ref b/\bK H k b/\kvs.length<sizeLine/\H'=upd H a (.dT (bh kvs k v))
theorem cw.k {H:Hp} {a:Addr} {kvs:List (Key × V)} {k:Key} (e:H a=some (.dK kvs)):cw H a (kV k) (aQ kvs k):=.inl ⟨kvs,k,.inl e,rfl,rfl⟩
theorem cw.t {k:av} (e:H a=some (.dT kvs)) (eb:bK H k b):cw H a (.ref b) (aQ kvs k):=.inr ⟨kvs,k,b,.inl e,rfl,eb,rfl⟩
theorem fb.k {H:Hp} {a:Addr} {kvs:List (Key × V)} {k:Key} {v:V} (e:H a=some (.dK kvs)) (hl:kvs.length<sizeLine):fb H a (kV k) v (upd H a (.dK (bh kvs k v))):=.inl ⟨kvs,k,e,rfl,hl,rfl⟩
theorem fb.t {k:av} {v:V} (e:H a=some (.dT kvs)) (eb:bK H k b) (hl:kvs.length<sizeLine) :
  fb H a (.ref b) v (upd H a (.dT (bh kvs k v))):=.inr ⟨kvs,k,b,e,rfl,eb,hl,rfl⟩
section
variable {X:Cx} {pins:A1} {U:St} {H:Hp} {s:Shared} {a:Addr} {y v:V} {u r:Value} {o:Option V} {A:Around} {E:A0}
theorem Inv.big (I:Inv X pins U H s):sysModules<s.heap.objs.size:=by
 have h:mainGlobals<s.heap.objs.size:=(I.mod.glob.keeps I.bk).lt;exact Nat.lt_trans (by decide) h
variable {Q:A0}
theorem qe (hu:A.units+8<cLine) (I:Inv X pins U H s) (g:cw H a y (some v)) (ry:aI y u) (h:∀w' s',Inv X pins U H s'->aI v w'->Q w' s') :
  wpAny (model X.prog X.w) A (getItem (.ref a) u) Q E s:=by
 rcases g with⟨kvs,k,e,ey,l⟩|⟨kvs,k,b,e,ey,eb,l⟩
 ·subst ey;obtain⟨z,hd,vs,rel,dd⟩:=hV I.hok e;obtain⟨w',hw,rw'⟩:=fH.some_of (v:=v) (o:=valueAt vs k) (by rw[l];exact rel.val k);exact wpAny_getItem_of (fB ry) dd.mapOf hw (h w' _ (I.tok _) rw')
 subst ey;cases (show u=Value.ref b from ry);obtain⟨z,hd,xs,rel,dd⟩:=hU I.hok e;obtain⟨w',hw,rw'⟩:=fH.some_of (v:=v) (o:=(atKey xs k).map (·.2)) (by rw[l];exact rel.val k);obtain⟨p,hp,hp2⟩:=Xv.mp hw;refine wpAny_getItem_heap (fc hu) (cX I.hok eb) dd hp ?_;rw[hp2];exact h w' _ (I.tok _) rw'
theorem uL (hu:A.units+8<cLine) (I:Inv X pins U H s) (g:cw H a y o) (ry:aI y u) (h:∀s',Inv X pins U H s'->Q (.bool (!o.isSome)) s') :
  wpAny (model X.prog X.w) A (compareOp .NotIn u (.ref a)) Q E s:=by
 rcases g with⟨kvs,k,e,ey,l⟩|⟨kvs,k,b,e,ey,eb,l⟩
 ·subst ey;obtain⟨z,hd,vs,rel,dd⟩:=hV I.hok e;refine wpAny_notIn_of (fB ry) hd dd.mapOf ?_;rw[<-(rel.val k).isSome_eq,<-l];exact h _ (I.tok _)
 subst ey;cases (show u=Value.ref b from ry);obtain⟨z,hd,xs,rel,dd⟩:=hU I.hok e;refine wpAny_notIn_heap (fc hu) (cX I.hok eb) hd dd ?_;have q:=(rel.val k).isSome_eq;rw[Option.isSome_map]at q;rw[<-q,<-l];exact h _ (I.tok _)
theorem fF {h':Heap} {t':Nat} {ob:HO} (I:Inv X pins U H s) (mu:Mut (H a)) (hs:Heap.SameBut a s.heap h') (he:∃q,h'.get? a=some q) (new:bo X.prog X.w (upd H a ob) h' a ob) :
  Inv X pins U (upd H a ob) { s with heap:=h',toks:=t' } :=
 I.write (x:=a) (e:=a) mu (.inl rfl) (λb q hb z=>(hs.2 b hb).trans z) he new
theorem m8 {P:Program} {w:World} {H':Hp} {h':Heap} {kvs:List (Key × V)} {vs:List (Key × Value)} (z:kvs.length<=sizeLine) (hd:(a==sysModules)=false) (rel:KV kvs vs) (dd:h'.DictOf (au P w) a vs) :
  bo P w H' h' a (.dK kvs):=⟨z,hd,vs,rel,dd⟩
theorem p_ {H':Hp} {Q:Unit->Shared->Prop} (hu:A.units+8<cLine) (I:Inv X pins U H s) (g:fb H a y v H') (ry:aI y u) (rv:aI v r) (h:∀s',Inv X pins U H' s'->Q () s') :
  wpAny (model X.prog X.w) A (setItem (.ref a) u r) Q E s:=by
 rcases g with⟨kvs,k,e,ey,l,eH⟩|⟨kvs,k,b,e,ey,eb,l,eH⟩
 ·subst ey eH;obtain⟨z,hd,vs,rel,dd⟩:=s_ I.hok e;have hz:vs.length<=sizeLine:=by rw[<-rel.length];exact z
  have hl:(bh kvs k v).length<=sizeLine:=by have:=bC kvs k v;omega
  refine wpAny_setItem_pairs (hsz:=hz) (fB ry) dd λh' dd' hs=>h _ ?_;have he:∃q,h'.get? a=some q:=let ⟨q,_,_,hq,_⟩:=dd';⟨q,hq⟩;exact fF I (by rw[e];exact True.intro) hs he (m8 hl hd (rel.put k rv) dd')
 subst ey eH;cases (show u=Value.ref b from ry);obtain⟨z,hd,xs,rel,dd⟩:=vE I.hok e;have hz:xs.length<=sizeLine:=by rw[<-Xi rel];exact z
 have hl:(bh kvs k v).length<=sizeLine:=by have:=bC kvs k v;omega
 refine wpAny_setItem_heap (hsz:=hz) (fc hu) (cX I.hok eb) dd λh' dd' hs=>h _ ?_;obtain⟨q,es,ep,hq,h2,h3,h4,_,h5⟩:=dd';refine fF I (by rw[e];exact True.intro) hs ⟨q,hq⟩ ⟨hl,hd,_,(rel.put k eb rv).keeps λc ys ec=>?_,q,es,ep,hq,h2,h3,h4,h5⟩;rw[ah (vq ec e (λz=>nomatch z))];exact ec
end
section
variable {X:Cx} {pins:A1} {U:St} {H:Hp} {s:Shared} {a:Addr} {kvs:List (Key × V)} {k:Key} {u:Value} {A:Around} {E:A0}
end
def yj (i:Expr):Prop:=∀ov iv,subscripted i false ov iv=operate [ov,iv] (getItem ov iv)
variable {Q E:A0} {pos:Pos} {s:Shared}
theorem tO {prog:Program} {w:World} {A:Around} {env:Env} {value slice:Expr} {T id:String}
  (hl:typeLookup (.type T) "__getitem__" = pure (some (.builtin id))) (hs:yj slice)
  (h:wpAny (model prog w) A (eval value env) (λo s₁=>wpAny (model prog w) A (eval slice env) (λi s₂=>s₂.TypeIs o T/\wpAny (model prog w) A (getItem o i) Q E s₂) E s₁) E s) :
  wpAny (model prog w) A (eval (.Subscript value slice pos) env) Q E s:=by
 refine Subscript_ (XM h (λo s₁ h₁=>XM h₁ (λi s₂ h₂=>?_) λ_ _ x=>x) λ_ _ x=>x);obtain⟨hT,h₂⟩:=h₂;unfold subscriptTail;refine Qa ?_;rw[getitemInPython_of_ne hT.not_modules];refine Qa (wpAny_specialOf hT hl ?_)
 have fin:wpAny (model prog w) A (subscripted slice false o i) (λr s₃=>wpAny (model prog w) A (letTemporaryGo value o r >>= λ_=>pure r) Q E s₃) E s₂:=by
  rw[hs o i];exact wpAny_operating (XM h₂ (λr s₃ h₃=>Qa (wpAny_letTemporaryGo (Qf h₃))) λ_ _ x=>x)
 first
  | exact Qf (Qa fin)
  | exact Qa (Qf (Qa fin))
  | exact Qa fin
variable {pins:A1} {X:Cx}
theorem lK {U:St} {y:V} {o:Option V} (I:Inv X pins U H s) (g:cw H a y o):s.TypeIs (.ref a) "dict" := by
 rcases g with⟨kvs,k,e,_,_⟩|⟨kvs,k,b,e,_,_,_⟩
 ·obtain⟨_,_,vs,_,dd⟩:=hV I.hok e;exact dd.typeIs
 obtain⟨_,_,xs,_,dd⟩:=hU I.hok e;exact dd.typeIs
def u_ (td ty:TE):TE:=λU H Q=>td U H λx H1=>ty U H1 λy H2=>∃a v,x=.ref a/\cw H2 a y (some v)/\Q v H2
def nM (ty td:TE):TE:=λU H Q=>ty U H λy H1=>td U H1 λx H2=>∃a o,x=.ref a/\cw H2 a y o/\Q (.bl (!o.isSome)) H2
def vh (td ty tv:TE):TS:=λD U H=>tv U H λv H1=>td U H1 λx H2=>ty U H2 λy H3=>∃a H4,x=.ref a/\fb H3 a y v H4/\D.nx U H4
section
variable {X:Cx} {o i e value:Expr} {pos pos' tpos:Pos} {td ty tv:TE}
theorem de (hu:X.A.units+8<cLine) (ho:PE X o td) (hi:PE X i ty) (hs:yj i:=by exact λ_ _=>rfl):PE X (.Subscript o i pos) (u_ td ty):=by
 intro pins s U H Q I h;refine tO PySem.F.slot_dict_getitem.lookup hs (thn (ho pins s U H _ I h) λu s1 ⟨x,H1,I1,rx,q1⟩=>thn (hi pins s1 U H1 _ I1 q1) λiv s2 ⟨y,H2,I2,ry,a,v,ex,g,q2⟩=>?_);subst ex;obtain rfl:u=Value.ref a:=rx;exact⟨lK I2 g,qe hu I2 g ry λw' s3 I3 rw'=>⟨v,H2,I3,rw',q2⟩⟩
theorem iQ (hu:X.A.units+8<cLine) (hi:PE X i ty) (ho:PE X o td):PC X .NotIn i o (nM ty td):=by
 intro pins s U H Q I h;refine thn (hi pins s U H _ I h) λiv s1 ⟨y,H1,I1,ry,q1⟩=>thn (ho pins s1 U H1 _ I1 q1) λu s2 ⟨x,H2,I2,rx,a,ov,ex,g,q2⟩=>?_;subst ex;obtain rfl:u=Value.ref a:=rx;exact uL hu I2 g ry λs3 I3=>⟨.bl (!ov.isSome),H2,I3,rfl,q2⟩
theorem db (hu:X.A.units+8<cLine) (ho:PE X o td) (hi:PE X i ty) (hv:PE X value tv) (hs:swapsWith value (some (.Subscript o i pos')) pos.line X.env=pure false) :
  PS X (.Assign [.Subscript o i pos'] value pos) (vh td ty tv):=by
 intro pins s U H D I h;refine wpAny_Assign_Subscript (thn (hv pins s U H _ I h) λr s1 ⟨v,H1,I1,rv,q1⟩=>thn (ho pins s1 U H1 _ I1 q1) λu s2 ⟨x,H2,I2,rx,q2⟩=>thn (hi pins s2 U H2 _ I2 q2) λiv s3 ⟨y,H3,I3,ry,a,H4,ex,g,q3⟩=>?_) hs;subst ex;obtain rfl:u=Value.ref a:=rx;exact p_ hu I3 g ry rv λs4 I4=>⟨U,H4,I4,q3⟩
end
theorem lJ {P:Program} {w:World} (h:Heap) (hb:sysModules<h.objs.size):bo P w H (h.push { cls:=.type "dict", data:=.dict #[] }) h.objs.size (.dK []) :=
 ⟨QP _,beq_eq_false_iff_ne.mpr (Ne.symm (QC hb)),[],.nil,Heap.DictOf.new h⟩
theorem lI {P:Program} {w:World} (h:Heap) (hb:sysModules<h.objs.size):bo P w H (h.push { cls:=.type "dict", data:=.dict #[] }) h.objs.size (.dT []) :=
 ⟨QP _,beq_eq_false_iff_ne.mpr (Ne.symm (QC hb)),[],.nil,_,#[],0,Qq _ rfl,⟨rfl,rfl,rfl⟩,rfl,rfl,List.nodup_nil⟩
def vR:TE:=λ_ H Q=>∀p,H p=none->Q (.ref p) (upd H p (.dK []))
def vQ:TE:=λ_ H Q=>∀p,H p=none->Q (.ref p) (upd H p (.dT []))
section
variable {X:Cx} {pos:Pos}
theorem rE:PE X (.Dict [] [] pos) vR:=λpins s U H Q I h =>
 wpAny_Dict_empty ⟨.ref s.heap.objs.size,_,I.laid (a:=s.heap.objs.size) (o:=.dK []) (t':=s.toks) (λ_ _ q=>Qb _ q) (Qg _) (lJ s.heap I.big),rfl,h _ (I.hok.fresh (Qg _))⟩
theorem kR:PE X (.Dict [] [] pos) vQ:=λpins s U H Q I h =>
 wpAny_Dict_empty ⟨.ref s.heap.objs.size,_,I.laid (a:=s.heap.objs.size) (o:=.dT []) (t':=s.toks) (λ_ _ q=>Qb _ q) (Qg _) (lI s.heap I.big),rfl,h _ (I.hok.fresh (Qg _))⟩
end
def mh:List (TE × TE)->St->Hp->(List (V × V)->Hp->Prop)->Prop
 | [],_,H,Q=>Q [] H
 | (tk,tv)::r,U,H,Q=>tk U H λx H1=>tv U H1 λy H2=>mh r U H2 λps H3=>Q ((x,y)::ps) H3
abbrev VV:List (V × V)->List (Value × Value)->Prop:=Paired λp q=>aI p.1 q.1/\aI p.2 q.2
def PPs (X:Cx) (pos:Pos) (keys:List (Option Expr)) (values:List Expr) (trs:List (TE × TE)):Prop :=
 ∀(pins:A1) (s:Shared) (U:St) (H:Hp) (Q:List (V × V)->Hp->Prop),Inv X pins U H s->mh trs U H Q ->
  wpAny (model X.prog X.w) X.A (evalPairs (pairTrees keys values X.env pos)) (λvs s'=>∃ps H',Inv X pins U H' s'/\VV ps vs/\Q ps H') X.xe s
theorem oo:PPs X pos [] [] []:=λpins s U H Q I h=>pairTrees_nil_walk ⟨[],H,I,.nil,h⟩
variable {trs:List (TE × TE)}
theorem kO {k v:Expr} {ks:List (Option Expr)} {vs:List Expr} {tk tv:TE} (hk:PE X k tk) (hv:PE X v tv) (hr:PPs X pos ks vs trs) :
  PPs X pos (some k::ks) (v::vs) ((tk,tv)::trs):=λpins s U H Q I h =>
 pairTrees_cons_walk (thn (hk pins s U H _ I h) λu s1 ⟨x,H1,I1,rx,q1⟩=>thn (hv pins s1 U H1 _ I1 q1) λw2 s2 ⟨y,H2,I2,ry,q2⟩ =>
  thn (hr pins s2 U H2 _ I2 q2) λws s3 ⟨ps,H3,I3,rel,q3⟩=>⟨(x,y)::ps,H3,I3,.cons ⟨rx,ry⟩ rel,q3⟩)
def gP (kvs more:List (Key × V)):List (Key × V):=more.foldl (λacc kv=>bh acc kv.1 kv.2) kvs
theorem KV.merge:∀{more:List (Key × V)} {rs:List (Key × Value)} {kvs:List (Key × V)} {vs:List (Key × Value)},KV more rs->KV kvs vs->KV (gP kvs more) (merged vs rs):=by
 intro more rs kvs vs r;unfold KV at r
 induction r generalizing kvs vs with
 | nil=>intro q;exact q
 | @cons p q ps qs h t ih =>
 intro r0
 have e:KV (bh kvs p.1 p.2) (stored vs q.1 q.2):=by
  have:=r0.put p.1 h.2;rw[<-h.1];exact this
 exact ih e
theorem eQ:∀(more kvs:List (Key × V)),(gP kvs more).length<=kvs.length+more.length
 | [],kvs=>by show kvs.length<=kvs.length+0;omega
 | p::r,kvs=>by
  have h1:=eQ r (bh kvs p.1 p.2);have h2:=bC kvs p.1 p.2;show (gP (bh kvs p.1 p.2) r).length<=_;rw[Xp];omega
theorem ic {P:Program} {w:World}:∀{kvs:List (Key × V)} {ws:List (Value × Value)},VV (kvs.map λkv=>(kV kv.1,kv.2)) ws->∃rs,Carries (au P w) ws rs/\KV kvs rs
 | [],_,r=>by rw[List.map_nil]at r;cases r;exact⟨[],True.intro,.nil⟩
 | p::kvs,_,r=>by
  rw[Qu]at r
  cases r with
  | @cons a b as bs h t =>
  obtain⟨rs,c,q⟩:=ic (P:=P) (w:=w) t;obtain⟨b1,b2⟩:=b;exact⟨(p.1,b2)::rs,⟨fB h.1,rfl,c⟩,.cons ⟨rfl,h.2⟩ q⟩
def xg (trs:List (TE × TE)):TE:=λU H Q=>∀p,H p=none->mh trs U (upd H p (.dK [])) λps H2=>H2 p=some (.dK [])/\∃kvs:List (Key × V),ps=kvs.map (λkv=>(kV kv.1,kv.2))/\kvs.length<=15/\Q (.ref p) (upd H2 p (.dK (gP [] kvs)))
theorem ow {keys:List (Option Expr)} {values:List Expr} (h:PPs X pos keys values trs) (hall:keys.all (·.isSome)=true) (hl:keys.length=values.length) (h0:keys≠[])
  (h15:keys.length<=15):PE X (.Dict keys values pos) (xg trs):=by
 intro pins s U H Q I q;have hn:=I.hok.fresh (Qg s.heap.objs.size);have I1:=I.laid (a:=s.heap.objs.size) (o:=.dK []) (h':=s.heap.push { cls:=.type "dict", data:=.dict #[] }) (t':=s.toks) (λ_ _ q=>Qb _ q) (Qg _) (lJ s.heap I.big);refine wpAny_Dict_walk (knd:=au X.prog X.w) hall hl h0 h15 (thn (h pins _ U _ _ I1 (q _ hn)) λws s2 ⟨ps,H2,I2,rel,e,kvs,ep,lk,q2⟩=>?_);subst ep;obtain⟨rs,c,rk⟩:=ic (P:=X.prog) (w:=X.w) rel;obtain⟨z,hd,vs0,r0,dd⟩:=s_ I2.hok e;cases r0;refine⟨rs,c,dd,λh' dd' hs=>⟨.ref s.heap.objs.size,_,?_,rfl,q2⟩⟩
 have hz:(gP [] kvs).length<=sizeLine:=by
  have h1:=eQ kvs [];rw[List.length_nil]at h1;rw[XH];omega
 have he:∃q,h'.get? s.heap.objs.size=some q:=let ⟨q,_,_,hq,_⟩:=dd';⟨q,hq⟩;exact fF I2 (by rw[e];exact True.intro) hs he (m8 hz hd (rk.merge .nil) dd')
structure M1 (X:Cx) (o:Expr) (m:Str) (apos:Pos) (e:Expr) (cpos:Pos):Prop where
 base:attributeBase o m X.env (eval o X.env)=eval o X.env
 few:((backTo cpos (starEach [e] X.env)).all (λx=>!x.1)&&(backToKw cpos (keywordEach [] X.env)).all (λx=>x.1.isSome)
  && decide (([e]:List Expr).length+([]:List Keyword).length+(if ([]:List Keyword).isEmpty then 0 else 1)<30))=true
 line:(apos.endLine==cpos.line)=true
 trees:backTo cpos (starEach [e] X.env)=[(false,eval e X.env)]
structure M2 (X:Cx) (o:Expr) (m:Str) (apos:Pos) (e f:Expr) (cpos:Pos):Prop where
 base:attributeBase o m X.env (eval o X.env)=eval o X.env
 few:((backTo cpos (starEach [e,f] X.env)).all (λx=>!x.1)&&(backToKw cpos (keywordEach [] X.env)).all (λx=>x.1.isSome)
  && decide (([e,f]:List Expr).length+([]:List Keyword).length+(if ([]:List Keyword).isEmpty then 0 else 1)<30))=true
 line:(apos.endLine==cpos.line)=true
 trees:backTo cpos (starEach [e,f] X.env)=[(false,eval e X.env),(false,eval f X.env)]
def IsD (H:Hp) (a:Addr):Prop:=(∃kvs,Rd H a (.dK kvs))\/∃kvs,Rd H a (.dT kvs)
theorem mU {U:St} (I:Inv X pins U H s) (d:IsD H a) :
  s.TypeIs (.ref a) "dict" /\ (∀b,Value.ref a=.ref b->∃ob,s.heap.get? b=some ob/\ob.dict=none)/\(a==sysModules)=false:=by
 rcases d with⟨kvs,e⟩|⟨kvs,e⟩
 ·obtain⟨_,hd,vs,_,dd⟩:=hV I.hok e;refine⟨dd.typeIs,λb q=>?_,hd⟩;cases q;obtain⟨ob,_,_,h1,h2,_⟩:=dd;exact⟨ob,h1,h2.2.1⟩
 obtain⟨_,hd,xs,_,dd⟩:=hU I.hok e;refine⟨dd.typeIs,λb q=>?_,hd⟩;cases q;obtain⟨ob,_,_,h1,h2,_⟩:=dd;exact⟨ob,h1,h2.2.1⟩
section
variable {X:Cx} {pins:A1} {U:St} {H:Hp} {s:Shared} {a:Addr} {y d:V} {u r:Value} {o:Option V} {A:Around} {E:A0}
variable {Q:A0}
theorem wL (hu:A.units+8<cLine) (I:Inv X pins U H s) (g:cw H a y o) (ry:aI y u) (h:∀w' s',Inv X pins U H s'->aI (o.getD .non) w'->Q w' s') :
  wpAny (model X.prog X.w) A (call (.builtin "dict.get") [.ref a,u]) Q E s:=by
 rcases g with⟨kvs,k,e,ey,l⟩|⟨kvs,k,b,e,ey,eb,l⟩
 ·subst ey;obtain⟨z,hd,vs,rel,dd⟩:=hV I.hok e;refine call_meetsIn PySem.F.slot_dict_get dd.typeIs PySem.F.entry_dict_get (PySem.F.args_dict_get_2 _ _) (meets_dict_get (au X.prog X.w) a (fB ry) hd) ⟨_,dd.mapOf,h _ _ (I.tok _) ?_⟩;rw[l];exact(rel.val k).getD rfl
 subst ey;cases (show u=Value.ref b from ry);obtain⟨z,hd,xs,rel,dd⟩:=hU I.hok e;refine call_meetsIn PySem.F.slot_dict_get dd.typeIs PySem.F.entry_dict_get (PySem.F.args_dict_get_2 _ _) (meetsH_dict_get (bg X.prog X.w) a b hd) ⟨fc hu,k,xs,cX I.hok eb,dd,h _ _ (I.tok _) ?_⟩;rw[l];exact(rel.val k).getD rfl
theorem wK (hu:A.units+8<cLine) (I:Inv X pins U H s) (g:cw H a y o) (ry:aI y u) (rd:aI d r) (h:∀w' s',Inv X pins U H s'->aI (o.getD d) w'->Q w' s') :
  wpAny (model X.prog X.w) A (call (.builtin "dict.get") [.ref a,u,r]) Q E s:=by
 rcases g with⟨kvs,k,e,ey,l⟩|⟨kvs,k,b,e,ey,eb,l⟩
 ·subst ey;obtain⟨z,hd,vs,rel,dd⟩:=hV I.hok e;refine call_meetsIn PySem.F.slot_dict_get dd.typeIs PySem.F.entry_dict_get (PySem.F.args_dict_get_3 _ _ _) (meets_dict_get_default (au X.prog X.w) a (fB ry) hd r) ⟨_,dd.mapOf,h _ _ (I.tok _) ?_⟩;rw[l];exact(rel.val k).getD rd
 subst ey;cases (show u=Value.ref b from ry);obtain⟨z,hd,xs,rel,dd⟩:=hU I.hok e;refine call_meetsIn PySem.F.slot_dict_get dd.typeIs PySem.F.entry_dict_get (PySem.F.args_dict_get_3 _ _ _) (meetsH_dict_get_default (bg X.prog X.w) a b hd r) ⟨fc hu,k,xs,cX I.hok eb,dd,h _ _ (I.tok _) ?_⟩;rw[l];exact(rel.val k).getD rd
end
def qD (td ty:TE):TE:=λU H Q=>td U H λx H1=>∃a,x=.ref a/\IsD H1 a/\ty U H1 λy H2=>∃o,cw H2 a y o/\Q (o.getD .non) H2
def qC (td ty tx:TE):TE:=λU H Q=>td U H λx H1=>∃a,x=.ref a/\IsD H1 a/\ty U H1 λy H2=>tx U H2 λz H3=>∃o,cw H3 a y o/\Q (o.getD z) H3
section
variable {X:Cx} {o e f:Expr} {apos cpos:Pos} {td ty tx:TE}
theorem rH (hu:X.A.units+8<cLine) (ho:PE X o td) (he:PE X e ty) (m:M1 X o "get" apos e cpos):PE X (.Call (.Attribute o "get" apos) [e] [] cpos) (qD td ty):=by
 intro pins s U H Q I h;refine wpAny_Call_method m.base m.few m.line PySem.F.plainAttrs_dict PySem.F.slot_dict_get PySem.F.type_dict_get (thn (ho pins s U H _ I h) λu s1 ⟨x,H1,I1,rx,a,ex,d,q1⟩=>?_);subst ex;obtain rfl:u=Value.ref a:=rx;obtain⟨t1,t2,_⟩:=mU I1 d;refine⟨t1,t2,?_⟩;rw[m.trees];refine Calls.callWith_builtin rfl (Calls.evalArgs_plain (XR (thn (he pins s1 U H1 _ I1 q1) λiv s2 ⟨y,H2,I2,ry,ov,g,q2⟩=>Calls.spliced_nil ?_)));exact wL hu I2 g ry λw' s3 I3 rw'=>⟨_,H2,I3,rw',q2⟩
theorem rG (hu:X.A.units+8<cLine) (ho:PE X o td) (he:PE X e ty) (hf:PE X f tx) (m:M2 X o "get" apos e f cpos):PE X (.Call (.Attribute o "get" apos) [e,f] [] cpos) (qC td ty tx):=by
 intro pins s U H Q I h;refine wpAny_Call_method m.base m.few m.line PySem.F.plainAttrs_dict PySem.F.slot_dict_get PySem.F.type_dict_get (thn (ho pins s U H _ I h) λu s1 ⟨x,H1,I1,rx,a,ex,d,q1⟩=>?_);subst ex;obtain rfl:u=Value.ref a:=rx;obtain⟨t1,t2,_⟩:=mU I1 d;refine⟨t1,t2,?_⟩;rw[m.trees]
 refine Calls.callWith_builtin rfl (Calls.evalArgs_plain (XR (thn (he pins s1 U H1 _ I1 q1) λiv s2 ⟨y,H2,I2,ry,q2⟩ =>
  XR (thn (hf pins s2 U H2 _ I2 q2) λfv s3 ⟨z,H3,I3,rz,ov,g,q3⟩=>Calls.spliced_nil ?_))))
 exact wK hu I3 g ry rz λw' s4 I4 rw'=>⟨_,H3,I4,rw',q3⟩
end
section
variable {X:Cx} {pins:A1} {U:St} {H:Hp} {s:Shared} {a:Addr} {kvs:List (Key × V)} {A:Around} {E:A0}
end
section
variable {X:Cx} {pins:A1} {U:St} {H:Hp} {s:Shared} {a:Addr} {y:V} {u:Value} {A:Around} {E:A0}
end
end L2
namespace Att
open PySem PySem.W PySem.Calls PyProof.Rows
theorem gh {P:Params} {h:Heap}:∀(ns:List Int) (vs:List Value),WellAll P h vs (ns.map WData.int)->IntsAre vs ns:=by
 intro ns
 induction ns with
 | nil =>
  intro vs w;rw[List.map_nil]at w;cases w;exact .nil
 | cons n ns ih =>
 intro vs w;rw[Qu]at w
 cases w with
 | cons a b =>
 cases a;exact .cons _ _ (ih _ b)
theorem pD {l:OpenLaw} {n:Nat} (hn:l.most=some n) {P:Params} {h:Heap} {args:List WData} {vals:List Value}
  (hpre:l.row.toRowW.claim.pre args=true) (hwl:WellAll P h vals args) :
  ∃a vs ns,vals=[Value.ref a]/\args=[WData.list (ns.map WData.int)]/\h.get? a=some { cls:=.type "list", data:=.seq vs.toArray }/\IntsAre vs ns/\ns.length<=n:=by
 have hsh:WShape.hasAll [] args [.list .int]=true:=(pre_splitW hpre).1;have hc:l.pre.holds [] { args:=args }=true:=(pre_splitW hpre).2;obtain⟨d,r,rfl,h1,h2⟩:=hasAllW_cons hsh;obtain rfl:=hasAllW_nil h2;obtain⟨xs,rfl,h3⟩:=hasW_list h1;obtain⟨ns,rfl⟩:=items_int h3
 have hlen:ns.length<=n:=by
  unfold OpenLaw.pre at hc
  have h4:(WTm.not (.lt (.lit (.int (n:Int))) (.len (.arg 0)))).holds [] { args:=[.list (ns.map .int)] }=true:=by
   have h4:=(holds_andW hc).1;rw[hn]at h4;exact h4
  have h5:=condW_of h4 (w_not (w_lt w_lit (w_len_list (w_arg rfl))));rw[Qd]at h5;refine Nat.le_of_not_lt λq=>?_;have q':(n:Int)<((ns.length:Nat):Int):=by omega
  first
   | (rw[Qx q']at h5;exact absurd h5 (by decide))
   | (simp at h5;omega)
 cases hwl with
 | cons w1 w2 =>
 cases w2
 cases w1 with
 | list ho hall=>exact⟨_,_,ns,rfl,rfl,ho,gh ns _ hall,hlen⟩
theorem pE (l:OpenLaw) (args:List WData):l.row.toRowW.claim.post args (.bool true) args=true :=
 postW_of (r:=l.row.toRowW) (X:=(true==true))
  (show WShape.has [] (.bool true) .bool=true by first|rfl|decide|simp[WShape.has,WShape.arms,WShape.armsAll])
  (show (WTm.eq .res (.lit (.bool true))).value [] { args:=args,res:=some (.bool true),after:=args }=some (.bool (true==true)) from w_eq_bool (w_res rfl) w_lit) rfl
theorem lR {l:OpenLaw} {n:Nat} {q:Program} {loose:List Str} {XP:A2->Heap->Prop} {YP:World->Heap->Prop} {d:DefRec}
  (hn:l.most=some n) (hdf:d.params.defaults=[])
  (call:∀(w:World) (s₀ s₁:Shared) (mg mb:A2) (fa:Addr) (o:Obj) (pm cd doc:Value) (a:Addr) (vs:List Value) (ns:List Int),
   Ground q loose [] XP w s₀ mg mb s₁.heap->YP w s₁.heap ->
   s₁.heap.get? fa=some o->o.data=.func (docDef d.name d.params d.body d.scope pm cd doc)->s₁.heap.CodeRec cd d.name->mg d.name=some (.ref fa) ->
   s₁.heap.get? a=some { cls:=.type "list", data:=.seq vs.toArray }->IntsAre vs ns->ns.length<=n->s₁.gens=#[] ->
   codeAny (model l.prog w) callerA (.call (.ref fa) ⟨[.ref a],[]⟩) (λr s'=>r=.ok (.ret (.bool true))/\OldK s₁.heap s'.heap/\s'.os=s₁.os/\AllBare s'.gens) s₁) :
  WalkO q loose XP YP l.row.toRowW d [] (λf vs=>PySem.call f vs):=by
 intro w s₀ s₁ mg mb G Y fa o pm cd doc dV kV ho hd hcd hD hmg hg args vals as hpre hlay hrd hwl hlo;obtain rfl:dV=.none:=Dflts.none hD hdf;obtain rfl:kV=.none:=Dflts.noKw hD;obtain⟨a,vs,ns,rfl,rfl,hobj,hints,hlen⟩:=pD hn hpre hwl;refine enter_call (codeAny_mono (call w s₀ s₁ mg mb fa o pm cd doc a vs ns G Y ho (fd_plain hd) hcd hmg hobj hints hlen hg) λr s' hq=>?_);obtain⟨rfl,h2,h3,h4⟩:=hq;exact⟨.inl ⟨.bool true,.bool true,[],rfl,λ_=>rfl,.bool true,pE l _,λ_=>⟨List.Pairwise.nil,λ_ hm=>(nomatch hm)⟩⟩,h2,h3,h4⟩
section
variable {prog:Program} {w:World} {A:Around} {E:A0} {s:Shared} {K:Frag}
end
end Att
namespace L2
open PySem PySem.Spec PyProof.Rows
theorem iB:∀{vs:List Value} {ns:List Int},IntsAre vs ns->aO (ns.map V.int) vs
 | _,_,.nil=>.nil
 | _,_,.cons n t h=>.cons ⟨t,rfl⟩ (iB h)
end L2
/- THE LAST THEOREM (shape;LID,My.* are yours):
  My.Adr: a structure of the addresses that your layer names (classes,functions);My.Txt K t: a structure (Prop) of the equations over K;
  My.txt_mk:{K} {implicit addresses ..} (e1:nsIn K mainGlobals "law" = some (some (.ref f))) (e2:K.lookup f=some ⟨oc,od,.func (fnOf "law" "law" params body scope dV kV doc pm an cdv ct),sl⟩) (e3:codeIn K cdv "law" = true) ..:∃t,My.Txt K t
(the tactic k_is has no namespace: write k_is) -/
namespace L2
open PySem PySem.Spec PyProof.Rows
abbrev CX0:CXT:=λ_ _ _ _ _ _=>False
abbrev E0:XK:=λ_ _ _=>False
variable {X:Cx}
theorem vm:ij CX0 X E0:=λ_ _ _ _ _ _ _ h=>h.elim
structure Fun (K:PySem.W.Frag) (x qual:Str) (st:Stmt) (f:Addr) (fd:FuncData):Prop where
 ex:∃(oc:Value) (od:Option Addr) (kV doc pm:Value) (an:Option Addr) (cdv ct:Value) (osl:Array (Option Value)),
  fd=PySem.W.fnOf x qual (cH st) (bP st) (ax st) .none kV doc pm an cdv ct/\K.lookup f=some ⟨oc,od,.func fd,osl⟩/\PySem.W.codeIn K cdv qual=true
 kp:PySem.W.keepIn K (.ref f)=true
section
variable {P:Program} {w:World} {K:PySem.W.Frag} {mg:A2} {base:Heap}
variable {x qual:Str}
theorem Fun.ok {st:Stmt} {f:Addr} {fd:FuncData} {N ps:List Str} {k:Nat} {sp:Sp} (F:Fun K x qual st f fd) (S:FnScope N ps (ax st)) (len:∀vs H Q E,sp vs H Q E->vs.length=ps.length)
  (hbody:∀(cdv:Value) (A:Around) (outer:List Env) (s:Shared) (H:Hp) (vs:List V) (Q:VK) (E:XK),Room k (A.deeper (envOfC qual (ax st) s.heap.objs.size f cdv))->sp vs H Q E ->
   ∃t,PSs (cxOf CX0 P w K mg base N qual (ax st) f cdv A outer s H E).nox (bP st) t/\t { nx:=λ_ H'=>Q .non H',rt:=Q } (start N vs) H):FnOk P w K mg base CX0 (k+1) f fd ps sp:=by
 obtain⟨oc,od,kV,doc,pm,an,cdv,ct,osl,rfl,lk,hcd⟩:=F.ex;refine vD lk hcd S len λA outer s H vs Q E hr hsp=>?_;obtain⟨t,h,q⟩:=hbody cdv A outer s H vs Q E hr hsp;exact⟨t,h.nox,q⟩
theorem Fun.binds {st:Stmt} {f:Addr} {fd:FuncData} {ps:List Str} (F:Fun K x qual st f fd)
  (h:∀(kV doc pm:Value) (an:Option Addr) (cdv ct:Value) (us:List Value),us.length=ps.length->bindArgs (PySem.W.fnOf x qual (cH st) (bP st) (ax st) .none kV doc pm an cdv ct) ⟨us,[]⟩=pure (ps.zip us)):ik K fd ps []:=by
 obtain⟨oc,od,kV,doc,pm,an,cdv,ct,osl,rfl,lk,hcd⟩:=F.ex;exact .all (h kV doc pm an cdv ct)
theorem mX {st:Stmt} {f:Addr} {oc:Value} {od an:Option Addr} {osl:Array (Option Value)} {kV doc pm cdv ct:Value} (l:K.lookup f=some ⟨oc,od,.func (PySem.W.fnOf x qual (cH st) (bP st) (ax st) .none kV doc pm an cdv ct),osl⟩)
  (c:PySem.W.codeIn K cdv qual=true) (k:PySem.W.keepIn K (.ref f)=true):Fun K x qual st f (PySem.W.fnOf x qual (cH st) (bP st) (ax st) .none kV doc pm an cdv ct):=⟨⟨oc,od,kV,doc,pm,an,cdv,ct,osl,rfl,l,c⟩,k⟩
end
theorem cL {A:Around} {k:Nat} (hr:Room k A):A.units+8<cLine:=XG (Nat.add_le_add_left (by decide:8<=64) _) hr.units
section
variable {X:Cx}
theorem pv (i:Nat) {x:Str} {pos:Pos} (hN:X.N[i]?=some x:=by rfl) (hv:Vis X.env.scope x:=by first|exact Or.inl rfl|exact Or.inr (Or.inl rfl)|exact Or.inr (Or.inr rfl)) (hd:(x==("__debug__" : Str))=false:=by decide)
  (hcd:(x==("__classdict__" : Str))=false:=by decide):PE X (.Name x pos) (eI i):=v9 hN hv hd hcd
end
theorem iteF {A B:Prop} (h:B):if false=true then A else B:=by
 rw[Qr Qm];exact h
theorem iteT {A B:Prop} (h:A):if true=true then A else B:=by
 rw[Qt rfl];exact h
theorem lA {c A B:Prop} [Decidable c] (h1:c->A) (h2:¬c->B):if c then A else B:=by
 by_cases h:c
 ·rw[Qt h];exact h1 h
 rw[Qr h];exact h2 h
def ak (H H':Hp):Prop:=∀b o,H b=some o->H' b=some o
theorem ak.refl (H:Hp):ak H H:=λ_ _ h=>h
variable {H H1 H2 H' H4:Hp}
theorem ak.trans (a:ak H H1) (b:ak H1 H2):ak H H2:=λc o h=>b c o (a c o h)
variable {a c e T:Addr}
theorem ak.seq {K:PySem.W.Frag} {xs:List V} (e:ak H H') (h:SqL K H a xs):SqL K H' a xs:=by
 rcases h with(h|⟨o,h⟩)|h
 ·exact .inl (.inl (e _ _ h))
 ·exact .inl (.inr ⟨o,e _ _ h⟩)
 exact .inr h
section
variable {κ:Type} [DecidableEq κ]
variable {kvs:List (κ × V)}
theorem dS {k:κ} (h:aQ kvs k=none):¬k∈kvs.map (·.1):=by
 intro m;obtain⟨p,hp,e⟩:=Qj.mp m;have q:(kvs.any λkv=>decide (kv.1=k))=true:=List.any_eq_true.mpr ⟨p,hp,Qx e⟩;rw[cJ,h]at q;exact absurd q (by simp)
theorem nE {k:κ} {v:V} (h:aQ kvs k=some v):k∈kvs.map (·.1):=by
 have q:(kvs.any λkv=>decide (kv.1=k))=true:=by
  rw[cJ,h]
  all_goals rfl
 obtain⟨p,hp,e⟩:=List.any_eq_true.mp q;exact Qj.mpr ⟨p,hp,XD e⟩
theorem oD:∀{l:List κ} {k:κ},l.Nodup->¬k∈l->(l++[k]).Nodup
 | [],k,_,_=>by simp
 | a::r,k,h,hk=>by
  obtain⟨h1,h2⟩:=QN.mp h;show (a::(r++[k])).Nodup;refine QN.mpr ⟨λm=>?_,oD h2 λm=>hk (Qh.mpr (Or.inr m))⟩;rcases Qw.mp m with q|q
  ·exact h1 q
  exact hk (Qh.mpr (Or.inl (QB.mp q).symm))
end
section
variable {X:Cx}
end
def wk:St->St->Prop
 | [],[]=>True
 | none::a,_::b=>wk a b
 | some x::a,y::b=>y=some x/\wk a b
 | _,_=>False
theorem je:∀{a b:St},wk a b->a.length=b.length
 | [],[],_=>rfl
 | [],_::_,h=>h.elim
 | none::_,[],h=>h.elim
 | some _::_,[],h=>h.elim
 | none::a,_::b,h=>congrArg (·+1) (je (a:=a) (b:=b) h)
 | some _::a,_::b,h=>congrArg (·+1) (je (a:=a) (b:=b) h.2)
theorem jf:∀{a b:St},wk a b->∀(i:Nat) (v:V),a[i]?=some (some v)->b[i]?=some (some v)
 | [],[],_,i,v,e=>by simp at e
 | [],_::_,h,_,_,_=>h.elim
 | none::_,[],h,_,_,_=>h.elim
 | some _::_,[],h,_,_,_=>h.elim
 | none::a,y::b,h,0,v,e=>by simp at e
 | none::a,y::b,h,i+1,v,e=>by
  have:=jf (a:=a) (b:=b) h i v (by simpa using e);simpa using this
 | some x::a,y::b,h,0,v,e=>by
  have e':x=v:=by simpa using e
  subst e';rw[h.1];rfl
 | some x::a,y::b,h,i+1,v,e=>by
  have:=jf (a:=a) (b:=b) h.2 i v (by simpa using e);simpa using this
def cz (env:Env):List (Str × NameKind)->List (Str × Addr)->List (Str × Addr)
 | [],acc=>acc
 | (n,k)::r,acc=>cz env r (if (k==.free)=true then (n,(env.cells.lookup n).getD 0)::acc else acc)
theorem h_ {env:Env}:∀(ns:List (Str × NameKind)) (acc:List (Str × Addr)),(∀y∈ns,y.2=.free->∃c,env.cells.lookup y.1=some c) ->
  (forIn ns acc (fun x r=>match x with
   | (name,kind)=>if (kind==NameKind.free)=true then (do let c <-cellOf env name;pure (ForInStep.yield ((name,c)::r))) else pure (ForInStep.yield r)):Sem (List (Str × Addr)))=pure (cz env ns acc)
 | [],acc,_=>rfl
 | (n,k)::r,acc,h=>by
  rw[List.forIn_cons];have ih:=λa=>h_ (env:=env) r a λy hy=>h y (Qo _ hy);by_cases hk:(k==NameKind.free)=true
  ·obtain⟨c,hc⟩:=h (n,k) Xl (by simpa using hk);have e1:cellOf env n=pure c:=by unfold cellOf;rw[hc]
   simp only[hk,if_true,e1,pure_bind];unfold cz;simp only[hk,if_true,hc,Option.getD_some];exact ih _
  simp only[hk,Xs,pure_bind];unfold cz;simp only[hk,Xs];exact ih _
variable {env:Env} {scope:Scope}
theorem ib (h:∀y∈scope.names,y.2=.free->∃c,env.cells.lookup y.1=some c):closureFor scope env=pure (cz env scope.names []):=by
 have e:=h_ scope.names [] h;unfold closureFor
 first
  | (rw[show (forIn scope.names ([]:List (Str × Addr)) _:Sem (List (Str × Addr)))=pure (cz env scope.names []) from e];rfl)
  | (simp only[bind_pure];exact e)
  | exact(congrArg (· >>= pure) e)
theorem fX {env:Env}:∀(ns:List (Str × NameKind)) (acc:List (Str × Addr)) (n:Str) (a:Addr),(n,a)∈cz env ns acc->(n,a)∈acc\/(a=(env.cells.lookup n).getD 0/\(n,NameKind.free)∈ns)
 | [],acc,n,a,h=>.inl h
 | (m,k)::r,acc,n,a,h=>by
  unfold cz at h;by_cases hk:(k==NameKind.free)=true
  ·rw[Qt hk]at h;rcases fX r _ n a h with q|⟨q1,q2⟩
   ·rcases Qh.mp q with q|q
    ·cases q;have hk':k=.free:=by simpa using hk
     subst hk';exact .inr ⟨rfl,Xl⟩
    exact .inl q
   exact .inr ⟨q1,Qo _ q2⟩
  rw[Qr hk]at h;rcases fX r _ n a h with q|⟨q1,q2⟩
  ·exact .inl q
  exact .inr ⟨q1,Qo _ q2⟩
theorem i5 {env:Env}:∀(ns:List (Str × NameKind)) (acc:List (Str × Addr)) (p:Str × Addr),p∈acc->p∈cz env ns acc
 | [],_,_,h=>h
 | (m,k)::r,acc,p,h=>by
  unfold cz;refine i5 r _ p ?_
  split
  ·exact Qo _ h
  exact h
theorem hZ {env:Env}:∀(ns:List (Str × NameKind)) (acc:List (Str × Addr)) (n:Str),(n,NameKind.free)∈ns->(n,(env.cells.lookup n).getD 0)∈cz env ns acc
 | [],_,_,h=>nomatch h
 | (m,k)::r,acc,n,h=>by
  unfold cz;rcases Qh.mp h with q|q
  ·cases q;refine i5 r _ _ ?_;rw[Qt (by rfl)];exact Xl
  exact hZ r _ n q
theorem dE {α β:Type} [BEq α] [LawfulBEq α]:∀{l:List (α × β)} {x:α} {y:β},l.lookup x=some y->(x,y)∈l
 | [],_,_,h=>by simp at h
 | (a,b)::r,x,y,h=>by
  rw[QZ]at h;by_cases e:(x==a)=true
  ·rw[e]at h;have e':x=a:=by simpa using e
   have h':b=y:=by simpa using h
   subst e' h';exact Xl
  have e2:(x==a)=false:=by simpa using e
  rw[e2]at h;exact Qo _ (dE (by simpa using h))
theorem eO {α β:Type} [BEq α] [LawfulBEq α]:∀{l:List (α × β)} {x:α} {y:β},(x,y)∈l->∃z,l.lookup x=some z
 | [],_,_,h=>nomatch h
 | (a,b)::r,x,y,h=>by
  rw[QZ];by_cases e:(x==a)=true
  ·rw[e];exact⟨b,rfl⟩
  have e2:(x==a)=false:=by simpa using e
  rw[e2];rcases Qh.mp h with q|q
  ·cases q;simp at e
  exact eO q
variable {x:Str} {ns:List (Str × NameKind)}
theorem tF (h:(cz env ns []).lookup x=some c) (hall:∀y∈ns,y.2=.free->∃c,env.cells.lookup y.1=some c):env.cells.lookup x=some c:=by
 rcases fX ns [] x c (dE h) with q|⟨q1,q2⟩
 ·nomatch q
 obtain⟨c',hc⟩:=hall _ q2 rfl;have hc':env.cells.lookup x=some c':=hc;rw[hc']at q1;rw[hc',q1];rfl
theorem oZ {env:Env} (h:(x,NameKind.free)∈ns):∃c,(cz env ns []).lookup x=some c:=eO (hZ ns [] x h)
noncomputable def Cx.block (X:Cx) (N:List Str) (scope:Scope) (C:Addr) (s:Shared) (H:Hp) (fp:A3):Cx :=
 { X with N:=N,s₀:=s,H₀:=H,env:=compEnvC scope (cz X.env scope.names []) C X.env,outer:=X.stack,ex:=fp,fn:=λ_=>false,pn:=[],xe:=λ_ _=>False }
theorem jv {k:NameKind} (h:(relabel scope env).names.lookup x=some k):∃k',scope.names.lookup x=some k'/\(k=k'\/(k'=.free/\k=.cell)):=by
 unfold relabel at h;generalize scope.names=ns at h
 induction ns with
 | nil=>simp at h
 | cons p r ih =>
 obtain⟨n,k0⟩:=p;rw[Qu]at h;by_cases e:(x==n)=true
 ·refine⟨k0,by rw[QZ,e],?_⟩;by_cases c:(k0==NameKind.free&&env.scope.kind==.function&&env.kindOf n==some .cell)=true
  ·have h1:some NameKind.cell=some k:=by
    have h2:=h;simp only[c,if_true]at h2;rw[QZ,e]at h2;exact h2
   have h3:k0=.free:=by
    simp only[Xz,beq_iff_eq]at c;exact c.1.1
   exact .inr ⟨h3,(QJ h1).symm⟩
  have h1:some k0=some k:=by
   have h2:=h;simp only[c,QE,Xs]at h2;rw[QZ,e]at h2;exact h2
  exact .inl (QJ h1).symm
 have e2:(x==n)=false:=by simpa using e
 rw[QZ,e2];refine ih ?_;by_cases c:(k0==NameKind.free&&env.scope.kind==.function&&env.kindOf n==some .cell)=true
 ·have h2:=h;simp only[c,if_true]at h2;rw[QZ,e2]at h2;exact h2
 have h2:=h;simp only[c,QE,Xs]at h2;rw[QZ,e2]at h2;exact h2
theorem jw (h:scope.names.lookup x=some .free):(relabel scope env).names.lookup x=some .cell\/(relabel scope env).names.lookup x=some .free:=by
 unfold relabel;show List.lookup x (scope.names.map _)=_\/List.lookup x (scope.names.map _)=_;generalize scope.names=ns at h
 induction ns with
 | nil=>simp at h
 | cons p r ih =>
 obtain⟨n,k0⟩:=p;rw[Qu];by_cases e:(x==n)=true
 ·rw[QZ,e]at h;have h':k0=.free:=by simpa using h
  subst h';by_cases c:(NameKind.free==NameKind.free&&env.scope.kind==.function&&env.kindOf n==some .cell)=true
  ·left
   simp only[c,if_true];rw[QZ,e]
  right
  simp only[c,QE,Xs];rw[QZ,e]
 have e2:(x==n)=false:=by simpa using e
 rw[QZ,e2]at h;have h3:=ih h;by_cases c:(k0==NameKind.free&&env.scope.kind==.function&&env.kindOf n==some .cell)=true
 ·simp only[c,if_true];rw[QZ,e2];exact h3
 simp only[c,QE,Xs];rw[QZ,e2];exact h3
def uY (X:Cx) (ifs:List Expr) (t:TT):Prop :=
 ∀(pins:A1) (s:Shared) (U:St) (H:Hp) (Q:Bool->Hp->Prop),Inv X pins U H s->t U H Q ->
  wpAny (model X.prog X.w) X.A (forIn ifs true λc r=>if r=true then do let ok <-isTrue c X.env (eval c X.env);pure (ForInStep.yield ok) else pure (ForInStep.yield r)) (TP X pins U Q) X.xe s
def ke:TT:=λ_ H Q=>Q true H
theorem cW:uY X [] ke:=λ_ _ _ H _ I h=>wpAny_tests_nil ⟨H,I,h⟩
theorem d4 {c:Expr} {t:TT} (h:PT X c t):uY X [c] t:=λpins s U H Q I hw=>wpAny_tests_one (h pins s U H Q I hw)
theorem fG {prog:Program} {w:World} {A:Around} {R:Result->Shared->Prop} {s:Shared} {elt target iter:Expr} {ifs:List Expr} {pos:Pos} {it acc:Value} (I:Nat->Shared->Prop)
  (turn:∀n s,I n s->wpAny (model prog w) A (pyNext it) (fun r s1=>match r with
   | none=>R (.ok .next) s1
   | some v=>wpAny (model prog w) A (letOwnedTupleGo target it v) (λ_ s2=>wpAny (model prog w) A (assign target env v) (λ_ s3 =>
     wpAny (model prog w) A (forIn ifs true λc r=>if r=true then do let ok <-isTrue c env (eval c env);pure (ForInStep.yield ok) else pure (ForInStep.yield r)) (λok s4 =>
      if ok=true then wpAny (model prog w) A (eval elt env) (λx s5 =>
       wpAny (model prog w) A (call (.builtin "list.append") [acc,x]) (λ_ s6=>∃m,m<n/\I m s6) (λ_ _=>False) s5) (λ_ _=>False) s4
      else ∃m,m<n/\I m s4) (λ_ _=>False) s3) (λ_ _=>False) s2) (λ_ _=>False) s1) (λ_ _=>False) s)
  (n:Nat) (h:I n s):codeAny (model prog w) A (.compLoop (.ListComp elt [⟨target,iter,ifs,0⟩] scope pos) 0 it acc env) R s:=by
 refine codeAny_loop rfl I (λn s hI=>?_) n h;show wpAny _ A ((compTurn (.ListComp elt [⟨target,iter,ifs,0⟩] scope pos) 0 it acc env).onRaise (λx=>do noteFrame x env;theTreesLotGoes x)) _ _ s;refine wpAny_noted ?_;rw[compTurn_list];have no:∀{E:A0},∀e s',(λ(_:Value) (_:Shared)=>False) e s'->E e s':=λ_ _ z=>False.elim z;refine Qa (wpAny_standAt (Qa (XM (turn n s hI) (λr s1 h1=>?_) no)))
 cases r with
 | none=>exact Qf h1
 | some v =>
 refine Qa (XM h1 (λ_ s2 h2=>?_) no);refine Qa (XM h2 (λ_ s3 h3=>Qa (XM h3 (λok s4 h4=>?_) no)) no)
 cases ok with
 | false=>exact Qf ⟨rfl,h4⟩
 | true =>
 exact Qa (Qa (XM h4 (λx s5 h5=>Qa (XM h5 (λ_ s6 h6=>Qf (Qf ⟨rfl,h6⟩)) no)) no))
def bz (tgs:List Str) (cap:List (Str × Nat)) (U:St):St:=tgs.map (λ_=>none)++cap.map λc=>(U[c.2]?).join
def gx (wi:TI) (g:TG) (tt:TT) (te:TE) (f:St->St):TE:=λU H Q=>wi U H λJ H1=>∀D,H1 D=none->∃W:Nat->Nat->Hp->List V->Prop,(∃m,W 0 m (upd H1 D (.lst [])) []) /\
 ∀i m H ys,W i m H ys->H D=some (.lst ys)/\((J.stop i H/\Q (.ref D) H)\/(J.go i H/\∀x H',J.yld i H x H'->g x (f U) H' λσ2 H2=>wk (f U) σ2/\tt σ2 H2 λb H3 =>
  if b=true then te σ2 H3 λv H4=>H4 D=some (.lst ys)/\ys.length<sizeLine/\∃m',m'<m/\W (i+1) m' (upd H4 D (.lst (ys++[v]))) (ys++[v])
  else ∃m',m'<m/\W (i+1) m' H3 ys))
structure BlockOk (X:Cx) (scope:Scope) (tgs:List Str) (cap:List (Str × Nat)):Prop where
 kind:scope.kind=.function
 nocell:(scope.names.all λy=>!(y.2==NameKind.cell))=true
 names:(scope.names.all λy=>!(y.2==NameKind.local) || (scope.names.lookup y.1==some .local))=true
 free:(scope.names.all λy=>!(y.2==NameKind.free) || (X.env.scope.names.lookup y.1==some .cell) || (X.env.scope.names.lookup y.1==some .free))=true
 caps:(cap.all λc=>decide (X.N[c.2]?=some c.1)&&(scope.names.lookup c.1==some .free)&&(decide (X.env.scope.names.lookup c.1=some .cell) || decide (X.env.scope.names.lookup c.1=some .free)))=true
 tgl:(tgs.all λx=>(scope.names.lookup x==some .local))=true
section
variable {X:Cx} {scope:Scope} {tgs:List Str} {cap:List (Str × Nat)}
theorem BlockOk.cellAt (B:BlockOk X scope tgs cap) (ok:X.Ok):∀y∈scope.names,y.2=.free->∃c,X.env.cells.lookup y.1=some c:=λy hy hk=>by
 have q:=Q7.mp B.free y hy;rw[hk]at q;refine ok.has y.1 ?_;simp only[beq_self_eq_true,XU,Bool.false_or,Bool.or_eq_true,beq_iff_eq]at q;exact q
theorem BlockOk.noc (B:BlockOk X scope tgs cap):∀y∈scope.names,y.2≠.cell:=λy hy hk=>by
 have q:=Q7.mp B.nocell y hy;rw[hk]at q;simp at q
theorem BlockOk.locs (B:BlockOk X scope tgs cap):∀y∈scope.names,y.2=.local->scope.names.lookup y.1=some .local:=λy hy hk=>by
 have q:=Q7.mp B.names y hy;rw[hk]at q;simpa using q
variable {pins:A1}
theorem Inv.enter {U:St} {H:Hp} {s:Shared} {h1:Heap} {tk:Nat} {fp:A3} (B:BlockOk X scope tgs cap) (I:Inv X pins U H s) (hfp:∀b∈fp,eB X pins H b) (hlt:∀b∈fp,b<s.heap.objs.size)
  (hns:h1.Ns s.heap.objs.size (λ_=>none)) (old:∀b o,s.heap.get? b=some o->h1.get? b=some o) :
  Inv (X.block (tgs++cap.map (·.1)) scope s.heap.objs.size s H fp) [] (bz tgs cap U) H { s with heap:=h1,toks:=tk }:=by
 have cellsIn:∀x c,(cz X.env scope.names []).lookup x=some c->X.env.cells.lookup x=some c:=λx c e=>tF e (B.cellAt I.ok)
 have kindIn:∀x,((relabel scope X.env).names.lookup x=some .cell\/(relabel scope X.env).names.lookup x=some .free)->(x,NameKind.free)∈scope.names:=λx hx=>by
  have go:∀k,(relabel scope X.env).names.lookup x=some k->(k=.cell\/k=.free)->(x,NameKind.free)∈scope.names:=λk hk hc=>by
   obtain⟨k',e1,e2⟩:=jv hk;have m:=dE e1;rcases e2 with e2|⟨e2,_⟩
   ·subst e2;rcases hc with z|z
    ·exact absurd z (B.noc _ m)
    subst z;exact m
   subst e2;exact m
  rcases hx with h|h
  ·exact go _ h (.inl rfl)
  exact go _ h (.inr rfl)
 have nocl:∀x c,X.env.cells.lookup x=some c->c≠s.heap.objs.size:=λx c e=>by
  obtain⟨v,q⟩:=I.cell x c e;exact QC q.lt
 refine⟨⟨I.ok.mod,?_,I.ok.glob,I.ok.blt,Qg _,λx y c e1 e2=>I.ok.inj x y c (cellsIn x c e1) (cellsIn y c e2),λx hx=>?_,λx c hf _=>absurd (show false=true from hf) Qm,I.ok.hd,I.ok.frames,.inl rfl,
  λb hb=>⟨QC (hlt b hb),λx c e=>?_⟩,I.bs,QG I.ok.bsz I.sz,λb o e hb=>?_,λb hb hf=>?_,I.stack,I.stkFree⟩,
  rfl,I.bare,Un.kept old,⟨_,hns,λi x v h2 h3 h4=>?_⟩,λx c e=>?_,?_,λx c e=>I.freeC x c (cellsIn x c e),λp hp=>absurd (show p∈([]:A1) from hp) (by simp),I.hok.kept old,?_⟩
 ·exact B.kind
 ·exact oZ (kindIn x hx)
 ·exact(hfp b hb).2.2.2.2.1 x c (cellsIn x c e)
 ·-- no object of the base is an iterator of ours
  rcases(hfp b hb).2.2.2.1 with z|z
  ·exact I.ok.noex b o e z
  have q:=I.ok.bs b o e;exact absurd (QL (Qp q.1) z) (XV _)
 ·have hf':b∈frs X.stack:=hf;rcases Qh.mp (I.stkSub b hf') with z|z
  ·exact(hfp b hb).2.1 z
  exact(hfp b hb).2.2.1 z
 ·-- a name that is known: one of the captured ones
  have hi:tgs.length<=i:=by
   by_cases hl:i<tgs.length
   ·exfalso;unfold bz at h3;rw[QM (by simpa using hl),Qs]at h3
    cases e:tgs[i]? with
    | none=>rw[e]at h3;cases h3
    | some z=>rw[e]at h3;cases h3
   exact om2 hl
  unfold bz at h3;rw[QQ (by simpa using hi),Qd,Qs]at h3;have h2':(tgs++cap.map (·.1))[i]?=some x:=h2;rw[QQ hi,Qs]at h2'
  cases e:cap[i-tgs.length]? with
  | none=>rw[e]at h2';cases h2'
  | some c =>
  rw[e]at h2' h3;have hx:c.1=x:=by simpa using h2'
  have hv:(U[c.2]?).join=some v:=by simpa using h3
  have hm:c∈cap:=Qk e;have q:=Q7.mp B.caps c hm;simp only[Xz,decide_eq_true_eq,beq_iff_eq,Bool.or_eq_true]at q;obtain⟨⟨q1,q2⟩,q3⟩:=q
  have hσ:U[c.2]?=some (some v):=by
   cases z:U[c.2]? with
   | none=>rw[z]at hv;cases hv
   | some o =>
   rw[z]at hv;have:o=some v:=by simpa using hv
   rw[this]
  obtain⟨m,_,hl⟩:=I.loc
  obtain⟨u,r,l⟩:=hl c.2 c.1 v q1 hσ (by
   rcases q3 with z|z
   ·exact .inr (.inl z)
   exact .inr (.inr z))
  subst hx;refine⟨u,r,.inr ⟨jw q2,?_⟩⟩
  have nl:¬X.env.kindOf c.1=some .local:=λz=>by
   rcases q3 with y|y
   ·have:X.env.kindOf c.1=some .cell:=y;rw[this]at z;cases z
   have:X.env.kindOf c.1=some .free:=y;rw[this]at z;cases z
  rcases l with⟨l1,_⟩|⟨_,d,l2,l3⟩
  ·exact absurd l1 nl
  obtain⟨d',e'⟩:=oZ (env:=X.env) (dE q2);have:d=d':=QJ (l2.symm.trans (cellsIn _ _ e'));subst this;obtain⟨oc,ho,hd⟩:=l3;exact⟨d,e',oc,old d oc ho,hd⟩
 ·obtain⟨v,oc,ho,hd⟩:=I.cell x c (cellsIn x c e);exact⟨v,oc,old c oc ho,hd⟩
 ·exact I.hok.fresh (Qg _)
 unfold bz;show _=(tgs++cap.map (·.1)).length;simp
theorem Inv.leave {U σ':St} {H H':Hp} {s s':Shared} {h2:Heap} {fp:A3} {N:List Str} (I:Inv X pins U H s) (hfp:∀b∈fp,eB X pins H b)
  (J:Inv (X.block N scope s.heap.objs.size s H fp) [] σ' H' s') (hs:Heap.SameBut s.heap.objs.size s'.heap h2):Inv X pins U H' { s' with heap:=h2 }:=by
 have u:Un (frs X.stack) fp H H' s.heap s'.heap:=J.base;have ne:∀b o,s.heap.get? b=some o->b≠s.heap.objs.size:=λb o e=>QC (Qp e);have hf:H' s.heap.objs.size=none:=J.free;have k:∀b o,b≠s.heap.objs.size->s'.heap.get? b=some o->h2.get? b=some o:=λb o hb e=>(hs.2 b hb).trans e
 have u2:Un (frs X.stack) fp H H' s.heap h2 :=
  ⟨λb o e n h1 h3=>k b o (ne b o e) (u.keep b o e n h1 h3),λb o e n h1 h3=>let ⟨sl,q⟩:=u.slot b o e n h1 h3;⟨sl,k b _ (ne b o e) q⟩,u.free,λb o e h3=>let ⟨o',q⟩:=u.there b o e h3;⟨o',k b o' (ne b o e) q⟩,u.tups,u.frzs,u.tbls⟩
 have hok:HOk X.prog X.w H' h2:=λb ob e=>(J.hok b ob e).stay (λc v hc q=>k c v (by
  rcases hc with z|z
  ·subst z;intro y;rw[y,hf]at e;cases e
  intro y
  rw[y,hf]at z;cases z) q) (λ_ q=>q) λ_ _ q=>q
 exact Inv.call' I (s':={ s' with heap:=h2 }) J.os u2 hok J.bare λb hb=>by
  obtain⟨f0,f1,f2,f3,f4,f5⟩:=hfp b hb;exact⟨f3,f1,f4,f5⟩
theorem gJ {elt tg iter:Expr} {ifs:List Expr} {pos:Pos} {wi:TI} {g:TG} {tt:TT} {te:TE} (hc:X.calm=true) (B:BlockOk X scope tgs cap) (hi:PI X tg iter wi)
  (hg:∀C s H fp,PG (X.block (tgs++cap.map (·.1)) scope C s H fp) tg g) (ht:∀C s H fp,uY (X.block (tgs++cap.map (·.1)) scope C s H fp) ifs tt) (he:∀C s H fp,PE (X.block (tgs++cap.map (·.1)) scope C s H fp) elt te)
  (hs:∀x,foldedSetIterable iter X.env x=pure x:=by intro _;rfl):PE X (.ListComp elt [⟨tg,iter,ifs,0⟩] scope pos) (gx wi g tt te (bz tgs cap)):=by
 intro pins s U H Q I h;rw[eval_ListComp];refine wpAny_comprehension_free (use:=none) rfl hs (ib (B.cellAt I.ok)) B.kind B.locs (thn (hi pins s U H _ I h) λv s1 h1=>thn h1 λitv s2 h2=>?_);obtain⟨it,fp,tn,J,H2,e,I2,T,st2,f2,q⟩:=h2;subst e;have lt2:∀b∈fp,b<s2.heap.objs.size:=λb hb=>let ⟨o,e,_⟩:=T.obj _ _ st2 b hb;Qp e;have hD:H2 s2.heap.objs.size=none:=I2.hok.fresh (Qg _);obtain⟨W,⟨m0,w0⟩,turn⟩:=q s2.heap.objs.size hD;refine XE ?_;have I3:Inv X pins U (upd H2 s2.heap.objs.size (.lst [])) { s2 with heap:=s2.heap.push { cls:=.type "list", dict:=none,data:=.seq ([]:List Value).toArray } }:=I2.lnew (t':=s2.toks) (ys:=[]) (its:=[]) .nil (QP _);have st3:tn 0 (s2.heap.push { cls:=.type "list", dict:=none,data:=.seq ([]:List Value).toArray }):=T.keep _ _ _ st2 λb _ o e=>Qb _ e;have nD:∀b∈fp,b≠s2.heap.objs.size:=λb hb=>QC (lt2 b hb);have f3:∀b∈fp,eB X pins (upd H2 s2.heap.objs.size (.lst [])) b:=λb hb=>⟨by rw[ah (nD b hb)];exact(f2 b hb).1,(f2 b hb).2⟩;generalize hs3:({ s2 with heap:=s2.heap.push { cls:=.type "list", dict:=none,data:=.seq ([]:List Value).toArray } }:Shared)=s3 at I3 st3 ⊢;have st3':tn 0 s3.heap:=by rw[<-hs3];exact st3
 have lt3:∀b∈fp,b<s3.heap.objs.size:=λb hb=>let ⟨o,e,_⟩:=T.obj _ _ st3' b hb;Qp e;generalize hH3:upd H2 s2.heap.objs.size (.lst [])=H3 at I3 f3 w0;generalize s2.heap.objs.size=D at *;refine wpAny_newFunctionEnv B.noc (by intro y hy;simp at hy) (λh1 hns hsb=>?_) B.kind;have old:∀b o,s3.heap.get? b=some o->h1.get? b=some o:=λb o e=>hsb.extBut b o (QC (Qp e)) (Qb _ e);have I4:=Inv.enter (tk:=s3.toks+([]:List (Str × Value)).length) (h1:=h1) B I3 f3 lt3 hns old;have st4:tn 0 h1:=T.keep _ _ _ st3' λb _ o e=>old b o e
 have fpB:∀{H':Hp},(∀b∈fp,H' b=none)->∀b∈fp,eB (X.block (tgs++cap.map (·.1)) scope s3.heap.objs.size s3 H3 fp) [] H' b:=λ{H'} hn b hb =>
  ⟨hn b hb,QC (lt3 b hb),I4.ok.exfs b hb,.inl hb,λx c e=>(I4.ok.exf b hb).2 x c e,λp hp=>absurd (show p∈([]:A1) from hp) (by simp)⟩
 have loop:codeAny (model X.prog X.w) X.A (.compLoop (.ListComp elt [⟨tg,iter,ifs,0⟩] scope pos) 0 (.ref it) (.ref D) (compEnvC scope (cz X.env scope.names []) s3.heap.objs.size X.env))
   (compPost (model X.prog X.w) X.A X.xe none (EP X pins U Q) (.ref D) s3.heap.objs.size) { s3 with heap:=h1,toks:=s3.toks+([]:List (Str × Value)).length }:=by
  refine fG (λn s'=>∃i H' ys,Inv (X.block (tgs++cap.map (·.1)) scope s3.heap.objs.size s3 H3 fp) [] (bz tgs cap U) H' s'/\tn i s'.heap/\(∀b∈fp,H' b=none)/\W i n H' ys) ?_ m0 ⟨0,H3,[],I4,st4,λb hb=>(f3 b hb).1,w0⟩;rintro n s5 ⟨i,H5,ys,I5,st5,fr5,w5⟩;obtain⟨hl,ht5⟩:=turn i n H5 ys w5;rcases ht5 with⟨stop,qd⟩|⟨go,step⟩
  ·refine thn (T.done (X.block (tgs++cap.map (·.1)) scope s3.heap.objs.size s3 H3 fp) rfl rfl rfl hc i [] s5 _ H5 _ I5 (fpB fr5) st5 stop) λr s6 ⟨hr,I6⟩=>?_;subst hr;obtain⟨m6,n6,_⟩:=I6.loc;exact⟨m6,n6,λh' hs'=>⟨.ref D,H5,Inv.leave I3 f3 I6 hs',rfl,qd⟩⟩
  refine thn (T.item (X.block (tgs++cap.map (·.1)) scope s3.heap.objs.size s3 H3 fp) rfl rfl rfl hc i [] s5 _ H5 _ I5 (fpB fr5) st5 go) λr s6 ⟨u,hr,h6⟩=>?_;subst hr;refine thn h6 λ_ s7 ⟨x,H7,I7,r7,y7,st7,fr7⟩=>?_;have I7':=I7.pinned (fpB fr7) (T.obj _ _ st7)
  have again:∀{σ8:St} {H8:Hp} {s8:Shared} {ys8:List V},Inv (X.block (tgs++cap.map (·.1)) scope s3.heap.objs.size s3 H3 fp) ([]++fN fp s7.heap) σ8 H8 s8->wk (bz tgs cap U) σ8->(∃m',m'<n/\W (i+1) m' H8 ys8) ->
    ∃m,m<n/\∃i H' ys,Inv (X.block (tgs++cap.map (·.1)) scope s3.heap.objs.size s3 H3 fp) [] (bz tgs cap U) H' s8/\tn i s8.heap/\(∀b∈fp,H' b=none)/\W i m H' ys:=λ{σ8 H8 s8 ys8} I8 k8 ⟨m',hm,w8⟩=>by
   refine⟨m',hm,i+1,H8,ys8,I8.unpinned.weak (je k8) (jf k8),T.keep _ _ _ st7 λb hb o e=>(I8.pin (b,o) (QF _ (QF _ (cE hb e)))).1,λb hb=>?_,w8⟩;obtain⟨o,e,d⟩:=T.obj _ _ st7 b hb;exact(I8.pin (b,o) (QF _ (QF _ (cE hb e)))).2.1
  refine thn (hg _ _ _ _ _ s7 _ H7 x u _ I7' r7 (step x H7 y7)) λ_ s8 ⟨σ8,H8,I8,k8,q8⟩=>?_;refine thn (ht _ _ _ _ _ s8 σ8 H8 _ I8 q8) λok s9 ⟨H9,I9,q9⟩=>?_
  cases ok with
  | false =>
   rw[Qr Qm]at q9 ⊢;exact again I9 k8 q9
  | true =>
  rw[Qt rfl]at q9 ⊢;refine thn (he _ _ _ _ _ s9 σ8 H9 _ I9 q9) λy sA ⟨yv,HA,IA,rA,hA,zA,qA⟩=>?_;exact thn (bj _ sA σ8 HA (.ref D) [yv] (.ref D) [y] (λv H'=>v=.non/\∃m',m'<n/\W (i+1) m' H' (ys++[yv])) IA rfl (.cons rA .nil) ⟨D,ys,yv,rfl,rfl,hA,zA,rfl,qA⟩) λ_ sB ⟨_,HB,IB,_,_,qB⟩=>again IB k8 qB
 exact codeAny_compStart_list loop (T.self _ 0 _ _ _ st4 loop)
theorem eM {X:Cx} {scope:Scope} {elt iter:Expr} {p pos:Pos} {wi:TI} {te:TE} (x:Str) (cap:List (Str × Nat)) (hi:PI X (.Name x p) iter wi) (he:∀C s H fp,PE (X.block ([x]++cap.map (·.1)) scope C s H fp) elt te) (hc:X.calm=true:=by rfl) (B:BlockOk X scope [x] cap:=by exact⟨rfl,rfl,rfl,rfl,rfl,rfl⟩) (hN:([x]++cap.map (·.1)).Nodup:=by decide +kernel) (hg:([x]++cap.map (·.1)).Nodup->∀C s H fp,PG (X.block ([x]++cap.map (·.1)) scope C s H fp) (.Name x p) (dv 0):=by intro h _ _ _ _;exact ba (i:=0) h rfl (by z_go)) (hs:∀x,foldedSetIterable iter X.env x=pure x:=by intro _;rfl):PE X (.ListComp elt [⟨.Name x p,iter,[],0⟩] scope pos) (gx wi (dv 0) ke te (bz [x] cap)):=gJ hc B hi (hg hN) (λ_ _ _ _=>cW) he hs
end
def Itf (n:Nat) (f:Nat->V):It:=⟨λi _=>i<n,λi H x H'=>H'=H/\x=f i,λi _=>i=n⟩
def iJ (z:Str) (i:Nat):V:=.str ⟨#[z.cps.getD i 0]⟩
section
variable {X:Cx} {x:Str} {px:Pos}
def yw (tl:TE):TI:=λU H R=>tl U H λv H1=>∃z:Str,v=.str z/\R (Itf z.cps.size (iJ z)) H1
end
section
variable {X:Cx}
def xn:V->Option Int->Option Int->Hp->VK->Prop:=λx lo hi H Q=>∃z:Str,x=.str z/\z.length<=sizeLine/\Q (.str (Txt.slice z lo hi)) H
theorem eX:SlR X xn:=by
 intro pins s U H x v vl vu lo hi sl Q I rx hs pl pu h;obtain⟨z,e,hz,q⟩:=h;subst e;obtain⟨t,e⟩:=rx;subst e;refine⟨"str", _,F.slot_str_getitem.lookup,typeIs_str _ _ _,?_⟩;have fin:∀(t':Tok) (k:Nat),EP X pins U Q (.str (Txt.slice z lo hi) t') { s with toks:=k }:=λt' k=>⟨.str _,H,I.tok k,⟨t',rfl⟩,q⟩
 cases pl with
 | none =>
  cases pu with
  | none=>exact wpAny_getItem_str_slice (l:=none) (u:=none) (st:=none) hs rfl (post_val_or_str ⟨QG (Txt.slice_le z _ _) hz,fin⟩)
  | int j uj=>exact wpAny_getItem_str_slice (l:=none) (u:=some (j,uj)) (st:=none) hs rfl (post_val_or_str ⟨QG (Txt.slice_le z _ _) hz,fin⟩)
 | int i ui =>
 cases pu with
 | none=>exact wpAny_getItem_str_slice (l:=some (i,ui)) (u:=none) (st:=none) hs rfl (post_val_or_str ⟨QG (Txt.slice_le z _ _) hz,fin⟩)
 | int j uj=>exact wpAny_getItem_str_slice (l:=some (i,ui)) (u:=some (j,uj)) (st:=none) hs rfl (post_val_or_str ⟨QG (Txt.slice_le z _ _) hz,fin⟩)
theorem eW:∀{ys:List Str} {us:List Value},aO (ys.map V.str) us->StrsAre us ys
 | [],_,r=>by
  rw[List.map_nil]at r;cases r;exact .nil
 | y::ys,_,r=>by
  rw[Qu]at r
  cases r with
  | cons r1 r2 =>
  obtain⟨t,e⟩:=r1;subst e;exact .cons y t (eW r2)
def xr (K:PySem.W.Frag):V->List V->Hp->VK->Prop:=λx vs H Q=>∃(z:Str) (l:Addr) (ys:List Str),x=.str z/\vs=[.ref l]/\SqL K H l (ys.map V.str)/\(ys.map (·.length)).sum+ys.length*z.length<=16777216/\Q (.str (Txt.join z ys)) H
theorem uo:MtR X "str.join" (xr X.K):=by
 intro pins s U H x vs v us Q I rx rv h;obtain⟨z,l,ys,e1,e2,hl,hz,q⟩:=h;subst e1 e2;obtain⟨t,e⟩:=rx;subst e;obtain⟨u,e,ru⟩:=rv.one;subst e;cases ru;obtain⟨its,r,pl,_⟩:=I.list hl;exact join_list pl.isList (by simpa using eW r) hz λt' k=>⟨.str _,H,I.tok k,⟨t',rfl⟩,q⟩
theorem pY (ys:List Str):(Txt.join Str.empty ys).cps.toList=(ys.map (·.cps.toList)).flatten:=by
 unfold Txt.join;rw[PySem.StrLaws.glued_eq_join]
 induction ys with
 | nil=>rfl
 | cons y r ih =>
 cases r with
 | nil=>simp[Str.join]
 | cons y2 r2 =>
 show (y++Str.empty++Str.join Str.empty (y2::r2)).cps.toList=_;rw[Qu,List.flatten_cons,<-ih];show (y.cps++Str.empty.cps++(Str.join Str.empty (y2::r2)).cps).toList=_;simp[Str.empty]
end
inductive EqD (K:PySem.W.Frag) (H:Hp):Nat->V->V->Bool->Prop
 | flat {n:Nat} {x y:V}:cu x=true->cu y=true->EqD K H n x y (eqV x y)
 | same {n:Nat} {a:Addr}:EqD K H n (.ref a) (.ref a) true
 | lists {n:Nat} {a b:Addr} {xs ys:List V} {e:Nat->Bool}:SqL K H a xs->SqL K H b ys->xs.length=ys.length->(∀(j:Nat) x y,xs[j]?=some x->ys[j]?=some y->EqD K H n x y (e j))->a≠b ->
   EqD K H (n+1) (.ref a) (.ref b) ((List.range xs.length).all e)
 | tups {n:Nat} {a b:Addr} {xs ys:List V} {e:Nat->Bool}:SqT K H a xs->SqT K H b ys->(∀(j:Nat) x y,xs[j]?=some x->ys[j]?=some y->EqD K H n x y (e j))->a≠b ->
   EqD K H (n+1) (.ref a) (.ref b) ((List.range (min xs.length ys.length)).all e&&xs.length==ys.length)
theorem EqD.at {X:Cx} {pins:A1} {U:St} {H:Hp} {s:Shared} (I:Inv X pins U H s) {n:Nat} {x y:V} {b:Bool} (h:EqD X.K H n x y b) :
  ∀{A:Around} {u v:Value},A.units+n<cLine->aI x u->aI y v->SeqAt.EqAt A s u v b:=by
 induction h with
 | flat fx fy=>intro A u v _ rx ry;exact sY rx ry fx fy
 | same =>
  intro A u v _ rx ry;cases rx;cases ry;exact SeqAt.EqAt.same _
 | @lists n a c xs ys e ha hb hl hi hne ih =>
  intro A u v hu rx ry;cases rx;cases ry;obtain⟨its,r1,p1,_⟩:=I.list ha;obtain⟨its2,r2,p2,_⟩:=I.list hb;have l1:=r1.length;have l2:=r2.length;refine SeqAt.EqAt.of_refs hne ?_
  have q:=SeqAt.RcAt.lists (A:=A) (e:=e) p1.isList p2.isList (by rw[Qi,Qi];exact om7 hl l1 l2) (by exact om8 hu) λj h1 h2=>by
   rw[Qi]at h1 h2;have e1:xs[j]?=some xs[j]:=Qc (by exact om9 hl l1 l2 h1);have e2:ys[j]?=some ys[j]:=Qc (by exact yr hl l1 l2 h1);obtain⟨w1,g1,rr1⟩:=r1.get e1;obtain⟨w2,g2,rr2⟩:=r2.get e2
   have g1':its.toArray[j]=w1:=by
    have:=(Qe.mp g1).2;simpa using this
   have g2':its2.toArray[j]=w2:=by
    have:=(Qe.mp g2).2;simpa using this
   rw[g1',g2'];exact ih j _ _ e1 e2 (by show A.units+1+n<cLine;exact xL hu) rr1 rr2
  rw[Qi,<-l1]at q;exact q
 | @tups n a c xs ys e ha hb hi hne ih =>
 intro A u v hu rx ry;cases rx;cases ry;obtain⟨its,r1,p1,_⟩:=I.tuple ha;obtain⟨its2,r2,p2,_⟩:=I.tuple hb;have l1:=r1.length;have l2:=r2.length;refine SeqAt.EqAt.of_refs hne ?_
 have q:=SeqAt.RcAt.tuples (A:=A) (e:=e) (show s.heap.IsTuple a its.toArray from p1) (show s.heap.IsTuple c its2.toArray from p2) (by exact om8 hu) λj h1 h2=>by
  rw[Qi]at h1 h2;have e1:xs[j]?=some xs[j]:=Qc (by exact rO l1 h1);have e2:ys[j]?=some ys[j]:=Qc (by exact rO l2 h2);obtain⟨w1,g1,rr1⟩:=r1.get e1;obtain⟨w2,g2,rr2⟩:=r2.get e2
  have g1':its.toArray[j]=w1:=by
   have:=(Qe.mp g1).2;simpa using this
  have g2':its2.toArray[j]=w2:=by
   have:=(Qe.mp g2).2;simpa using this
  rw[g1',g2'];exact ih j _ _ e1 e2 (by show A.units+1+n<cLine;exact xL hu) rr1 rr2
 rw[Qi,Qi,<-l1,<-l2]at q;exact q
section
variable {X:Cx}
theorem EqD.items {pins:A1} {U:St} {H:Hp} {s:Shared} (I:Inv X pins U H s) {n:Nat} {A:Around} (hu:A.units+1+n<cLine) {xs ys:List V} {its its2:List Value} (r1:aO xs its) (r2:aO ys its2) {e:Nat->Bool}
  (h:∀(j:Nat) x y,xs[j]?=some x->ys[j]?=some y->EqD X.K H n x y (e j)) (j:Nat) (h1:j<its.toArray.size) (h2:j<its2.toArray.size):SeqAt.EqAt A.in1 s its.toArray[j] its2.toArray[j] (e j):=by
 have l1:=r1.length;have l2:=r2.length;rw[Qi]at h1 h2;have e1:xs[j]?=some xs[j]:=Qc (by exact xK h1 l1);have e2:ys[j]?=some ys[j]:=Qc (by exact xK h2 l2);obtain⟨w1,g1,rr1⟩:=r1.get e1;obtain⟨w2,g2,rr2⟩:=r2.get e2
 have g1':its.toArray[j]=w1:=by
  have:=(Qe.mp g1).2;simpa using this
 have g2':its2.toArray[j]=w2:=by
  have:=(Qe.mp g2).2;simpa using this
 rw[g1',g2'];exact EqD.at I (h j _ _ e1 e2) (by show A.units+1+n<cLine;exact hu) rr1 rr2
def mB (K:PySem.W.Frag) (neg:Bool):R2:=λx y H Q=>∃a b xs ys e,x=.ref a/\y=.ref b/\SqL K H a xs/\SqL K H b ys/\(∀(j:Nat) x y,xs[j]?=some x->ys[j]?=some y->EqD K H 8 x y (e j)) /\
 Q (.bl (if neg then !(xs.length==ys.length&&(List.range xs.length).all e) else (xs.length==ys.length&&(List.range xs.length).all e))) H
def re (K:PySem.W.Frag) (neg:Bool):R2:=λx y H Q=>∃a b xs ys e,x=.ref a/\y=.ref b/\SqT K H a xs/\SqT K H b ys/\(∀(j:Nat) x y,xs[j]?=some x->ys[j]?=some y->EqD K H 8 x y (e j)) /\
 Q (.bl (if neg then !((List.range (min xs.length ys.length)).all e&&xs.length==ys.length) else ((List.range (min xs.length ys.length)).all e&&xs.length==ys.length))) H
theorem mF (hu:X.A.units+64<cLine):OpR X (compareOp .Eq) (mB X.K false):=by
 intro pins s U H x y v u Q I rx ry h;obtain⟨a,b,xs,ys,e,e1,e2,ha,hb,hi,q⟩:=h;subst e1 e2;cases rx;cases ry;obtain⟨its,r1,p1,_⟩:=I.list ha;obtain⟨its2,r2,p2,_⟩:=I.list hb;have l1:=r1.length;have l2:=r2.length;by_cases hl:xs.length=ys.length
 ·refine SeqAt.eq_listAt (e:=e) p1.isList p2.isList (by rw[Qi,Qi];exact xJ l1 l2 hl) (by exact pF hu) (EqD.items I (by exact t8 hu) r1 r2 hi) ⟨.bl _,H,I,rfl,?_⟩;rw[Qi,<-l1];have:(xs.length==ys.length)=true:=by simpa using hl
  rw[this]at q;exact q
 refine SeqAt.eq_list_lengthsAt p1.isList p2.isList (by rw[Qi,Qi,<-l1,<-l2];simpa using hl) (by exact pF hu) ⟨.bl _,H,I,rfl,?_⟩;have:(xs.length==ys.length)=false:=by simpa using hl
 rw[this]at q;exact q
theorem fP (hu:X.A.units+64<cLine):OpR X (compareOp .NotEq) (mB X.K true):=by
 intro pins s U H x y v u Q I rx ry h;obtain⟨a,b,xs,ys,e,e1,e2,ha,hb,hi,q⟩:=h;subst e1 e2;cases rx;cases ry;obtain⟨its,r1,p1,_⟩:=I.list ha;obtain⟨its2,r2,p2,_⟩:=I.list hb;have l1:=r1.length;have l2:=r2.length;by_cases hl:xs.length=ys.length
 ·refine SeqAt.RcNeAt.lists (e:=e) p1.isList p2.isList (by rw[Qi,Qi];exact xJ l1 l2 hl) (by exact pF hu) (EqD.items I (by exact t8 hu) r1 r2 hi) _ _ _ _ ⟨.bl _,H,I,rfl,?_⟩;rw[Qi,<-l1];have:(xs.length==ys.length)=true:=by simpa using hl
  rw[this]at q;exact q
 refine SeqAt.RcNeAt.lists_lengths p1.isList p2.isList (by rw[Qi,Qi,<-l1,<-l2];simpa using hl) (by exact pF hu) _ _ _ _ ⟨.bl _,H,I,rfl,?_⟩;have:(xs.length==ys.length)=false:=by simpa using hl
 rw[this]at q;exact q
theorem fR (hu:X.A.units+64<cLine):OpR X (compareOp .Eq) (re X.K false):=by
 intro pins s U H x y v u Q I rx ry h;obtain⟨a,b,xs,ys,e,e1,e2,ha,hb,hi,q⟩:=h;subst e1 e2;cases rx;cases ry;obtain⟨its,r1,p1,_⟩:=I.tuple ha;obtain⟨its2,r2,p2,_⟩:=I.tuple hb;have l1:=r1.length;have l2:=r2.length;refine SeqAt.eq_tupleAt (e:=e) (show s.heap.IsTuple a its.toArray from p1) (show s.heap.IsTuple b its2.toArray from p2) (by exact pF hu) (EqD.items I (by exact t8 hu) r1 r2 hi) ⟨.bl _,H,I,rfl,?_⟩;rw[Qi,Qi,<-l1,<-l2];exact q
theorem wj (hu:X.A.units+64<cLine):OpR X (compareOp .NotEq) (re X.K true):=by
 intro pins s U H x y v u Q I rx ry h;obtain⟨a,b,xs,ys,e,e1,e2,ha,hb,hi,q⟩:=h;subst e1 e2;cases rx;cases ry;obtain⟨its,r1,p1,_⟩:=I.tuple ha;obtain⟨its2,r2,p2,_⟩:=I.tuple hb;have l1:=r1.length;have l2:=r2.length;refine SeqAt.RcNeAt.tuples (e:=e) (show s.heap.IsTuple a its.toArray from p1) (show s.heap.IsTuple b its2.toArray from p2) (by exact pF hu) (EqD.items I (by exact t8 hu) r1 r2 hi) _ _ _ _ ⟨.bl _,H,I,rfl,?_⟩;rw[Qi,Qi,<-l1,<-l2];exact q
end
section
variable {X:Cx}
theorem qj (bs:List Bool):(List.range bs.length).all (λi=>bs.getD i false)=bs.all id:=by
 rw[Bool.eq_iff_iff];simp only[Q7,Xm]
 constructor
 ·intro h x hx;obtain⟨i,hi,e⟩:=List.mem_iff_getElem.mp hx;have q:=h i hi;rw[Qy,Qc hi,Option.getD_some,e]at q;exact q
 intro h i hi;rw[Qy,Qc hi,Option.getD_some];exact h _ (Xb hi)
theorem tG (hc:X.calm=true):dR X (.builtin "all") (λxs H Q=>∃(l:Addr) (bs:List Bool),xs=[.ref l]/\SqL X.K H l (bs.map V.bl)/\Q (.bl (bs.all id)) H):=by
 intro pins s U H xs us Q I r h;obtain⟨l,bs,e,hl,q⟩:=h;subst e;obtain⟨u,e,ru⟩:=c9 r;subst e;cases ru;obtain⟨its,rv,pl,hz⟩:=I.list hl;have hlen:=rv.length;rw[Qd]at hlen
 have ne:l≠s.heap.objs.size:=by
  obtain⟨o,ho,_⟩:=pl.isList;exact QC (Qp ho)
 refine call_all_walk (wpAny_pyIter_list pl.isList ?_);refine⟨s.heap.objs.size,_,_,_,_,_,(λi=>bs.getD i false),rfl,Walks.list (show X.A.in1.handled=none from I.ok.hd hc) s.heap.objs.size l ne its.toArray,⟨⟨_,Qq _ rfl,rfl,rfl⟩,pl.isList.push _⟩,?_,λh' tk hk=>?_⟩
 ·intro i v s' Q' E' hP hQ;have hP':its[i]?=some v:=by simpa using hP
  have hi:i<bs.length:=by
   have:=(Qe.mp hP').1;exact rO hlen this
  have e1:(bs.map V.bl)[i]?=some (.bl (bs.getD i false)):=by
   rw[Qs,Qc hi,Qy,Qc hi];rfl
  obtain⟨u,hu,ru⟩:=rv.get e1;rw[hP']at hu;cases hu;cases ru;exact wpAny_truthy_bool hQ
 have hs:its.toArray.size=bs.length:=by rw[Qi];exact hlen.symm
 rw[hs,qj]
 exact⟨.bl _,H,I.kept λb o e=>hk b o (by
  have:=Qp e;simp only[QB]
  exact QC this) (Qb _ e),rfl,q⟩
abbrev iE (K:PySem.W.Frag) (T:Addr) (D:List (Str × KTD.Dat)):Prop:=KTD.tabLook (KTD.datLooks λa=>K.lookup a) (λa=>K.lookup a) T D=true
theorem mE:OpR X (binaryOp .Mult) (λx y H Q=>∃z n,x=.str z/\y=.int n/\MulOk z n/\Q (.str (Txt.mul z n)) H):=by
 intro pins s U H x y v u Q I rx ry h;obtain⟨z,n,e1,e2,hm,q⟩:=h;subst e1 e2;obtain⟨t,e⟩:=rx;subst e;obtain⟨t',e⟩:=ry;subst e;exact SB.mul hm λt' k=>⟨.str _,H,I.tok k,⟨t',rfl⟩,q⟩
end
theorem Inv.turned2 {pins:A1} {U:St} {s:Shared} {h':Heap} {t':Nat} {it:Addr} {o:HO} (I:Inv X pins U H s) (k:∀b o,b≠e->b≠it->s.heap.get? b=some o->h'.get? b=some o)
  (f1:eB X pins H e) (f2:eB X pins H it) (hT:s.heap.objs.size<=T) (new:bo X.prog X.w (upd H T o) h' T o):Inv X pins U (upd H T o) { s with heap:=h',toks:=t' }:=by
 have hn:H T=none:=I.hok.fresh hT;have nT:∀b u,s.heap.get? b=some u->b≠T:=λb u q=>QC (QL (Qp q) hT);have n1:∀b u,H b=some u->b≠e:=λb u q z=>by rw[z,f1.1]at q;cases q
 have n2:∀b u,H b=some u->b≠it:=λb u q z=>by rw[z,f2.1]at q;cases q
 have kk:∀b u,b∉[e,it]->s.heap.get? b=some u->h'.get? b=some u:=λb u hc q=>k b u (λz=>hc (by simp[z])) (λz=>hc (by simp[z])) q
 refine I.step (g':=s.gens) (d':=s.drawn) (ch:=[e,it]) (λb hb=>?_) (λb u _ _ hc q _=>kk b u hc q) (λb u _ _ hc q _=>⟨u.slots,kk b u hc q⟩) (λb u _ q n=>by rw[ah (nT b u q)];exact n)
  (λb u hc q=>⟨u,kk b u hc q⟩) (λb xs q=>by rw[ah (am q hn)];exact q) (λb u xs q=>by rw[ah (am q hn)];exact q) (λb ps q=>⟨#[],by rw[ah (am q hn),q];simp⟩) (λm hm=>?_) (λb u q=>?_) I.bare
 ·have z:b=e\/b=it:=by simpa using hb
  rcases z with z|z
  ·subst z;obtain⟨_,a2,_,a4,a5,a6⟩:=f1;exact⟨a4,a2,a5,a6⟩
  subst z;obtain⟨_,a2,_,a4,a5,a6⟩:=f2;exact⟨a4,a2,a5,a6⟩
 ·obtain⟨ob,es,ep,ho,r⟩:=hm;exact⟨ob,es,ep,k _ ob (Ne.symm f1.2.1) (Ne.symm f2.2.1) ho,r⟩
 by_cases hb:b=T
 ·subst hb;rw[ag]at q;cases q;exact new
 rw[ah hb]at q;refine(I.hok b u q).stay (λc v hc z=>k c v ?_ ?_ z) (λc z=>by rw[ah (am z hn)];exact z) λc xs z=>by rw[ah (am z hn)];exact z
 ·rcases hc with z|z
  ·rw[z];exact n1 b u q
  exact n1 c _ z
 rcases hc with z|z
 ·rw[z];exact n2 b u q
 exact n2 c _ z
noncomputable def Ite (K:PySem.W.Frag) (a:Addr):It :=
 ⟨λi H=>∃xs x,SqL K H a xs/\xs[i]?=some x,λi H x H'=>∃T v,H T=none/\x=.ref T/\H'=upd H T (.tup [.int (i:Nat),v])/\∀xs,SqL K H a xs->xs[i]?=some v,λi H=>∃xs,SqL K H a xs/\xs.length<=i⟩
theorem ph {P:Program} {w:World} {K:PySem.W.Frag} {elts:List Expr} {k:Nat} {pos:Pos} (a e it:Addr) (hne:e≠it) :
  Turn P w K (.Tuple elts k pos) (Ite K a) [e,it] e (λi h=>(∃old,IsEnum h e it (i:Nat) old)/\h.IsListIter it a i) where
 mem:=by simp
 obj:=λi h st b hb=>by
  obtain⟨⟨old,he⟩,o,ho,hc,hd⟩:=st;have z:b=e\/b=it:=by simpa using hb
  rcases z with z|z
  ·subst z
   exact⟨_,he,λv q=>by
    have q':Data.fields _=Data.cell v:=q
    cases q'⟩
  subst z;exact⟨o,ho,λv q=>by rw[hd]at q;cases q⟩
 keep:=λi h h' st kk=>by
  obtain⟨⟨old,he⟩,hl⟩:=st;exact⟨⟨old,kk e (by simp) _ he⟩,hl.at λo q=>kk it (by simp) o q⟩
 item:=by
  intro X hP hw hK hc i pins s U H E I hf st hg;subst hP hw hK;obtain⟨xs,x,hq,hx⟩:=hg;obtain⟨its,rv,p,hz⟩:=I.list hq;obtain⟨u,hu,ru⟩:=rv.get hx;obtain⟨⟨old,he⟩,hl⟩:=st;have f1:=hf e (by simp);have f2:=hf it (by simp);refine wpAny_pyNext_enum_item he hl p.isList (x:=u) (by simpa using hu) hne λh1 a1 a2 a3 a4 a5=>⟨_,rfl,?_⟩;refine wpAny_letOwnedTupleGo_enum a1 λh2 b1 b2=>?_
  have nTe:s.heap.objs.size≠e:=λz=>by
   have q:=Qp (show s.heap.get? e=some _ from he);rw[<-z]at q;exact XV _ q
  have keep2:∀b o,b≠e->b≠it->s.heap.get? b=some o->h2.get? b=some o:=λb o n1 n2 q=>b2.extBut b o n1 (a5 b o n1 n2 q);have tup2:h2.get? s.heap.objs.size=some { cls:=.type "tuple", data:=.seq #[.int i s.toks,u] }:=b2.extBut _ _ nTe a3
  have I2:Inv X pins U (upd H s.heap.objs.size (.tup [.int (i:Nat),x])) { s with heap:=h2,toks:=s.toks+1 } :=
   I.turned2 keep2 f1 f2 (Qg _) ⟨(by show 2<=sizeLine;decide),[.int i s.toks,u],.cons ⟨_,rfl⟩ (.cons ru .nil),⟨_,tup2,rfl,_,rfl⟩⟩
  refine⟨.ref s.heap.objs.size,_,I2,rfl,⟨s.heap.objs.size,x,I.hok.fresh (Qg _),rfl,rfl,λys hy=>by rw[I.list_inj hy hq];exact hx⟩,⟨⟨u,?_⟩,(a2.extBut b2.extBut (Ne.symm hne))⟩,λb hb=>?_⟩
  ·have q:IsEnum h2 e it ((i:Int)+1) u:=b1;have c:(((i+1:Nat):Nat):Int)=(i:Int)+1:=by omega
   rw[c];exact q
  have z:b=e\/b=it:=by simpa using hb
  have nT:b≠s.heap.objs.size:=by
   rcases z with z|z
   ·rw[z];exact Ne.symm nTe
   rw[z];obtain⟨o,ho,_⟩:=hl;exact QC (Qp ho)
  rw[ah nT];exact(hf b hb).1
 done:=by
  intro X hP hw hK hc i pins s U H E I hf st hg;subst hP hw hK;obtain⟨xs,hq,hx⟩:=hg;obtain⟨its,rv,p,hz⟩:=I.list hq;obtain⟨⟨old,he⟩,hl⟩:=st;obtain⟨f0,f1,f2,f3,f4,f5⟩:=hf it (by simp);have hlen:=rv.length;exact wpAny_pyNext_enum_end (I.ok.hd hc) he hl p.isList (by simp;exact om4 hx hlen) λh' eb=>⟨rfl,I.turned (t':=s.toks) (λb o hb q=>eb b o hb q) f0 f1 f3 f4 f5⟩
 self:=λ_ _ _ _ _ st h=>by
  obtain⟨⟨old,he⟩,_⟩:=st;exact wpAny_pyIter_enum he h
section
variable {X:Cx} {elts:List Expr} {k:Nat} {tpos:Pos}
def xZ (K:PySem.W.Frag) (ta:TA):TI:=λU H R=>ta U H λvs H1=>∃a,vs=[.ref a]/\(∃xs,SqL K H1 a xs)/\R (Ite K a) H1
theorem ou {a:Expr} {ta:TA} {p pos:Pos} (hg:Gl X "enumerate") (hm:X.mg "enumerate" = none) (ha:PA X [a] ta) (hs:starEach [a] X.env=[(false,eval a X.env)]:=by rfl):PI X (.Tuple elts k tpos) (.Call (.Name "enumerate" p) [a] [] pos) (xZ X.K ta):=by
 intro pins s U H R I h;refine Call_ (d8 I hg hm boot_enumerate (XC (thn (ha pos pins s U H _ I h) λus s1 ⟨vs,H1,I1,r1,q1⟩=>?_) hs rfl));obtain⟨l,e,⟨xs,hq⟩,q⟩:=q1;subst e
 cases r1 with
 | cons r rr =>
 cases rr;cases r;obtain⟨its,rv,pl,hz⟩:=I1.list hq;refine call_enumerate_list pl.isList λh' b1 b2 b3 b4=>?_;refine wpAny_pyIter_enum b1 ?_;have I2:Inv X pins U H1 { s1 with heap:=h' }:=I1.kept (t':=s1.toks) b4;refine⟨s1.heap.objs.size+1,[s1.heap.objs.size+1,s1.heap.objs.size],_,_,H1,rfl,I2,ph l (s1.heap.objs.size+1) s1.heap.objs.size (by show @Ne Nat _ _;exact om5),⟨⟨_,b1⟩,b2⟩,λb hb=>?_,q⟩;have z:b=s1.heap.objs.size+1\/b=s1.heap.objs.size:=by simpa using hb
 have hle:s1.heap.objs.size<=b:=by
  rcases z with z|z
  ·rw[z];exact XN _
  rw[z];exact Qg _
 exact I1.fpOk hle (I1.hok.fresh hle)
end
theorem lF {K:PySem.W.Frag} {xs:List V} {g:TG} {tb:TS} {D:Ends} {U:St} (Pv:Nat->St->Hp->Prop) (h0:Pv 0 U H) (hl:∀i U H,i<=xs.length->Pv i U H->SqL K H a xs)
  (hs:∀i x U H T,xs[i]?=some x->Pv i U H->H T=none->g (.ref T) U (upd H T (.tup [.int (i:Nat),x])) λσ2 H2=>tb { D with nx:=Pv (i+1),ct:=Pv (i+1),bk:=D.nx } σ2 H2) (hd:∀U H,Pv xs.length U H->D.nx U H) :
  ∃W:Nat->Nat->St->Hp->Prop,(∃m,W 0 m U H)/\∀i m U H,W i m U H ->
   ((Ite K a).stop i H/\D.nx U H)\/((Ite K a).go i H/\∃N:St->Hp->Prop,(∀σ' H',N σ' H'->∃m',m'<m/\W (i+1) m' σ' H')/\∀x H',(Ite K a).yld i H x H'->g x U H' λσ2 H2=>tb { D with nx:=N,ct:=N,bk:=D.nx } σ2 H2):=by
 refine⟨λi m U H=>m=xs.length-i/\i<=xs.length/\Pv i U H,⟨xs.length,by simp,QP _,h0⟩,?_⟩;rintro i m U H ⟨rfl,hi,p⟩;have q:=hl i U H hi p;by_cases hlt:i<xs.length
 ·refine .inr ⟨⟨xs,xs[i],q,by simp[hlt]⟩,Pv (i+1),λσ' H' p'=>⟨xs.length-(i+1),by exact om6 hlt,rfl,hlt,p'⟩,λx H' y=>?_⟩;obtain⟨T,v,hT,ex,eH,y⟩:=y;subst ex eH;exact hs i v U H T (y xs q) p hT
 have e:i=xs.length:=by exact om0 hi hlt
 subst e;exact .inl ⟨⟨xs,q,Qg _⟩,hd U H p⟩
structure Fn (P:Program) (w:World) (K:PySem.W.Frag) (mg:A2) (base:Heap) (x:Str) (ps:List Str) (k:Nat) (sp:Sp):Prop where
 ex:∃f fd,FnOk P w K mg base CX0 k f fd ps sp/\mg x=some (.ref f)/\PySem.W.keepIn K (.ref f)=true/\ik K fd ps []
section
variable {X:Cx}
theorem xw {x:Str} {ps:List Str} {k:Nat} {sp:Sp} {e:Expr} {es:List Expr} {t:TA} {p pos:Pos} (F:Fn X.prog X.w X.K X.mg X.base x ps k sp) (hr:Room k X.A) (hg:Gl X x) (ha:PA X (e::es) t)
  (hdb:(x==("__debug__" : Str))=false:=by decide) (he:starEach (e::es) X.env=(false,eval e X.env)::starEach es X.env:=by rfl) (hpl:(backTo pos (starEach es X.env)).any (·.1)=false:=by rfl) :
  PE X (.Call (.Name x p) (e::es) [] pos) (nO sp [] E0 t):=by
 obtain⟨f,fd,G,hm,hk,hb⟩:=F.ex;exact tX G hr hg hm hk hb .nil vm ha hdb he hpl
theorem aP {x:Str} {ps:List Str} {k j:Nat} {sp:Sp} {e:Expr} {es:List Expr} {t:TA} {p pos:Pos} (F:Fn X.prog X.w X.K X.mg X.base x ps k sp) (hr:Room j X.A) (ha:PA X (e::es) t) (hk:k<=j:=by first|decide|omega) (hg:Gl X x:=by rfl) (hdb:(x==("__debug__" : Str))=false:=by decide) (he:starEach (e::es) X.env=(false,eval e X.env)::starEach es X.env:=by rfl) (hpl:(backTo pos (starEach es X.env)).any (·.1)=false:=by rfl):PE X (.Call (.Name x p) (e::es) [] pos) (nO sp [] E0 t):=xw F (hr.mono hk) hg ha hdb he hpl
end
section
variable {U:St} {H:Hp} {Q:VK} {K:PySem.W.Frag}
variable {v x y:V}
theorem aH {i:Nat} (h:U[i]?=some (some v)) (q:Q v H):eI i U H Q:=⟨v,h,q⟩
theorem i_c (q:Q v H):tC v U H Q:=q
variable {ta tb te to ti tl:TE}
theorem i_op {r:R2} (q:ta U H λx H1=>tb U H1 λy H2=>r x y H2 Q):tOp r ta tb U H Q:=q
variable {i j:Int}
theorem i_rI0 {g:Int->Int->V} (q:Q (g i j) H):rI0 g (.int i) (.int j) H Q:=⟨i,j,rfl,rfl,q⟩
theorem i_rI {C:Int->Int->Prop} {g:Int->Int->V} (c:C i j) (q:Q (g i j) H):rI C g (.int i) (.int j) H Q:=⟨i,j,rfl,rfl,c,q⟩
theorem i_eq (h:tR x y=true) (q:Q (.bl (decide (x=y))) H):rEq x y H Q:=⟨h,q⟩
theorem i_ne (h:tR x y=true) (q:Q (.bl (!decide (x=y))) H):rNe x y H Q:=⟨h,q⟩
theorem i_test {t:TE} {R:Bool->Hp->Prop} (q:t U H λx H'=>∃k,x=.bl k/\R k H'):qx t U H R:=q
theorem i_tB {t:TE} {R:Bool->Hp->Prop} (q:t U H λx H'=>∃k,x=.bl k/\R k H'):tB t U H R:=q
theorem i_and {t u:TT} {R:Bool->Hp->Prop} (q:t U H λc H1=>if c=true then u U H1 R else R false H1):xi t u U H R:=q
theorem i_or {t u:TT} {R:Bool->Hp->Prop} (q:t U H λc H1=>if c=true then R true H1 else u U H1 R):tOr t u U H R:=q
theorem i_not {t:TT} {R:Bool->Hp->Prop} (q:t U H λc H1=>R (!c) H1):w9 t U H R:=q
theorem i_andV (q:ta U H λx H1=>∃c,x=.bl c/\if c=true then tb U H1 Q else Q (.bl false) H1):xh ta tb U H Q:=q
theorem i_orV (q:ta U H λx H1=>∃c,x=.bl c/\if c=true then Q (.bl true) H1 else tb U H1 Q):w4 ta tb U H Q:=q
theorem i_notV (q:ta U H λx H1=>∃c,x=.bl c/\Q (.bl (!c)) H1):w6 ta U H Q:=q
theorem i_ifE {t:TT} (q:t U H λc H1=>if c=true then ta U H1 Q else tb U H1 Q):tIf t ta tb U H Q:=q
theorem bi {R:List V->Hp->Prop} (q:R [] H):jk U H R:=q
theorem bn {tr:TA} {R:List V->Hp->Prop} (q:te U H λx H1=>tr U H1 λxs H2=>R (x::xs) H2):eJ te tr U H R:=q
theorem i_call {sp:Sp} {E:XK} {t:TA} (q:t U H λvs H1=>sp vs H1 Q E):nO sp [] E t U H Q:=by
 show t U H λvs H1=>sp (vs++[]) H1 Q E;simpa only[List.append_nil] using q
theorem i_cb {r:List V->Hp->VK->Prop} {t:TA} (q:t U H λvs H1=>r vs H1 Q):tCB r t U H Q:=q
theorem i_tup {t:TA} (q:t U H λxs H1=>xs.length<=sizeLine/\∀p,H1 p=none->Q (.ref p) (upd H1 p (.tup xs))):qw t U H Q:=q
theorem i_lst {t:TA} (q:t U H λxs H1=>xs.length<=sizeLine/\∀p,H1 p=none->Q (.ref p) (upd H1 p (.lst xs))):qy t U H Q:=q
theorem i_bm {T:String} {r:V->List V->Hp->VK->Prop} {t:TA} (q:to U H λx H1=>tyV K T x H1/\t U H1 λxs H2=>r x xs H2 Q):tBM K T r to t U H Q:=q
theorem i_sl {r:V->Option Int->Option Int->Hp->VK->Prop} {tl th:TO} (q:te U H λx H1=>tl U H1 λl H2=>th U H2 λu H3=>r x l u H3 Q):tSl r te tl th U H Q:=q
theorem i_nopart {R:Option Int->Hp->Prop} (q:R none H):nJ U H R:=q
theorem i_part {t:TE} {R:Option Int->Hp->Prop} (q:t U H λx H1=>∃i,x=.int i/\R (some i) H1):u7 t U H R:=q
variable {xs:List V}
theorem bF {p:Addr} {v:V} (h:SqL K H p xs) (e:atI xs i=some v) (q:Q v H):tW K (.ref p) (.int i) H Q:=⟨p,xs,i,v,rfl,rfl,h,e,q⟩
theorem i_ixT {p:Addr} (h:H p=some (.tup xs)) (e:atI xs i=some v) (q:Q v H):rb K (.ref p) (.int i) H Q:=⟨p,xs,i,v,rfl,rfl,SqT.of h,e,q⟩
theorem fD {z:Str} {c:Nat} (hz:z.length<=sizeLine) (e:atI z.cps.toList i=some c) (q:Q (.str ⟨#[c]⟩) H):xt (.str z) (.int i) H Q:=⟨z,i,c,rfl,rfl,hz,e,q⟩
variable {D:Ends}
theorem s_seq {t u:TS} (q:t { D with nx:=u D } U H):tN t u D U H:=q
theorem s_asg {g:TG} (q:te U H λx H1=>g x U H1 D.nx):qG te g D U H:=q
theorem aw {i:Nat} {R:St->Hp->Prop} (q:R (U.set i (some v)) H):dv i v U H R:=q
theorem s_drop (q:te U H λ_ H1=>D.nx U H1):u9 te D U H:=q
theorem s_ret {te:TE} (q:te U H D.rt):wZ te D U H:=q
theorem s_next (q:D.nx U H):u8 D U H:=q
theorem s_if {c:TT} {t u:TS} (q:c U H λb H1=>if b=true then t D U H1 else u D U H1):xa c t u D U H:=q
theorem s_sub {t:uW} {R:St->Hp->Prop} (q:to U H λo H1=>ti U H1 λi H2=>t o i v H2 λH3=>R U H3):ya to ti t v U H R:=q
theorem s_setL {p:Addr} {k:Int} {j:Nat} {R:Hp->Prop} (h:H p=some (.lst xs)) (e:ixN xs.length k=some j) (q:R (upd H p (.lst (xs.set j v)))):vj (.ref p) (.int k) v H R:=⟨p,xs,k,j,rfl,rfl,h,e,q⟩
theorem s_for {wi:TI} {g:TG} {tb:TS} (q:wi U H λJ H1=>∃W:Nat->Nat->St->Hp->Prop,(∃m,W 0 m U H1)/\∀i m U H,W i m U H ->
 (J.stop i H/\D.nx U H)\/(J.go i H/\∃N:St->Hp->Prop,(∀σ' H',N σ' H'->∃m',m'<m/\W (i+1) m' σ' H')/\∀x H',J.yld i H x H'->g x U H' λσ2 H2=>tb { D with nx:=N,ct:=N,bk:=D.nx } σ2 H2)):xf wi g tb D U H:=q
theorem s_rng1 {ta:TA} {R:It->Hp->Prop} (q:ta U H λvs H1=>∃j:Int,vs=[.int j]/\-(2 ^ 62)<=j/\j<2 ^ 62/\R (Itr 0 j.toNat) H1):vA ta U H R:=q
theorem s_list {R:It->Hp->Prop} (q:tl U H λx H1=>∃a,x=.ref a/\(∃xs,SqL K H1 a xs)/\R (Itl K a) H1):lE K tl U H R:=q
theorem s_str {R:It->Hp->Prop} (q:tl U H λv H1=>∃z:Str,v=.str z/\R (Itf z.cps.size (iJ z)) H1):yw tl U H R:=q
theorem bS {wi:TI} {g:TG} {tt:TT} {f:St->St} (q:wi U H λJ H1=>∀D,H1 D=none->∃W:Nat->Nat->Hp->List V->Prop,(∃m,W 0 m (upd H1 D (.lst [])) []) /\
 ∀i m H ys,W i m H ys->H D=some (.lst ys)/\((J.stop i H/\Q (.ref D) H)\/(J.go i H/\∀x H',J.yld i H x H'->g x (f U) H' λσ2 H2=>wk (f U) σ2/\tt σ2 H2 λb H3 =>
  if b=true then te σ2 H3 λv H4=>H4 D=some (.lst ys)/\ys.length<sizeLine/\∃m',m'<m/\W (i+1) m' (upd H4 D (.lst (ys++[v]))) (ys++[v])
  else ∃m',m'<m/\W (i+1) m' H3 ys))):gx wi g tt te f U H Q:=q
end
def lX (Pv:Nat->Hp->List V->Prop) (n:Nat) (D:Addr) (i:Nat) (ys:List V):VK:=λv H4=>H4 D=some (.lst ys)/\ys.length<sizeLine/\∃m',m'<n-i/\(m'=n-(i+1)/\i+1<=n/\Pv (i+1) (upd H4 D (.lst (ys++[v]))) (ys++[v]))
theorem lX.mk {Pv:Nat->Hp->List V->Prop} {n:Nat} {D:Addr} {i:Nat} {ys:List V} {v:V} (hd:H4 D=some (.lst ys)) (hi:i<n) (hl:ys.length<sizeLine) (p:Pv (i+1) (upd H4 D (.lst (ys++[v]))) (ys++[v])):lX Pv n D i ys v H4 :=
 ⟨hd,hl,n-(i+1),by exact om6 hi,rfl,hi,p⟩
section
variable {K:PySem.W.Frag} {g:TG} {te:TE} {σ0:St} {QD:Hp->Prop} {H1:Hp} {D:Addr}
theorem hX {lo:Int} {n:Nat} (Pv:Nat->Hp->List V->Prop) (h0:Pv 0 (upd H1 D (.lst [])) []) (hD:∀i H ys,Pv i H ys->H D=some (.lst ys))
  (hs:∀i H ys,i<n->Pv i H ys->g (.int (lo+i)) σ0 H λσ2 H2=>wk σ0 σ2/\ke σ2 H2 λb H3=>if b=true then te σ2 H3 (lX Pv n D i ys) else ∃m',m'<n-i/\(m'=n-(i+1)/\i+1<=n/\Pv (i+1) H3 ys)) (hd:∀H ys,Pv n H ys->QD H) :
  ∃W:Nat->Nat->Hp->List V->Prop,(∃m,W 0 m (upd H1 D (.lst [])) [])/\∀i m H ys,W i m H ys->H D=some (.lst ys)/\(((Itr lo n).stop i H/\QD H)\/((Itr lo n).go i H/\∀x H',(Itr lo n).yld i H x H'->g x σ0 H' λσ2 H2=>wk σ0 σ2/\ke σ2 H2 λb H3 =>
   if b=true then te σ2 H3 λv H4=>H4 D=some (.lst ys)/\ys.length<sizeLine/\∃m',m'<m/\W (i+1) m' (upd H4 D (.lst (ys++[v]))) (ys++[v]) else ∃m',m'<m/\W (i+1) m' H3 ys)):=by
 refine⟨λi m H ys=>m=n-i/\i<=n/\Pv i H ys,⟨n,by simp,QP _,h0⟩,?_⟩;rintro i m H ys ⟨rfl,hi,p⟩;refine⟨hD i H ys p,?_⟩;by_cases hlt:i<n
 ·refine .inr ⟨hlt,λx H' y=>?_⟩;obtain⟨e,y⟩:=y;subst e y;exact hs i _ ys hlt p
 have e:i=n:=by exact om0 hi hlt
 subst e;exact .inl ⟨Qg _,hd H ys p⟩
end
section
variable {H:Hp} {Q:VK} {K:PySem.W.Frag}
theorem gX {z:Str} {lo hi:Option Int} (h:z.length<=sizeLine) (q:Q (.str (Txt.slice z lo hi)) H):xn (.str z) lo hi H Q:=⟨z,rfl,h,q⟩
variable {xs zs:List V}
theorem vz {a:Addr} {lo hi:Option Int} (h:SqL K H a xs) (q:∀p,H p=none->Q (.ref p) (upd H p (.lst (jT xs lo hi)))):xp K (.ref a) lo hi H Q:=⟨a,xs,rfl,h,q⟩
theorem yu {x:V} {p:Addr} (h:SqL K H p xs) (fx:cu x=true) (fs:xs.all cu=true) (q:Q (.bl (inV x xs)) H):rIn K false x (.ref p) H Q:=⟨p,xs,rfl,.inl h,fx,fs,q⟩
theorem f9 {l b:Addr} (h1:H l=some (.lst xs)) (h2:H b=some (.lst zs)) (hz:xs.length+zs.length<=sizeLine) (q:∀p,H p=none->Q (.ref p) (upd H p (.lst (xs++zs)))):v3 (.ref l) (.ref b) H Q:=⟨l,b,xs,zs,rfl,rfl,h1,h2,hz,q⟩
theorem dQ {l:Addr} {xs:List V} {y:V} (h:H l=some (.lst xs)) (hz:xs.length<sizeLine) (q:Q .non (upd H l (.lst (xs++[y])))):oj (.ref l) [y] H Q:=⟨l,xs,y,rfl,rfl,h,hz,q⟩
theorem i_tyL {p:Addr} (h:H p=some (.lst xs)):tyV K "list" (.ref p) H:=.inl ⟨rfl,xs,SqL.of h⟩
end
theorem aA {p:Addr} {o:HO} (hp:H p=none):ak H (upd H p o):=λb u e=>by rw[ah (am e hp)];exact e
end L2
namespace L2
open PySem
section
variable {U:St} {H:Hp} {D:Ends}
theorem s_seqT {t u:TS} (q:let D':Ends:={ D with nx:=u D };t D' U H):tN t u D U H:=q
theorem s_nameT {i:Nat} {v:V} {R:St->Hp->Prop} (q:let σ':St:=U.set i (some v);R σ' H):dv i v U H R:=q
end
variable {H:Hp}
theorem i_yes {U:St} {R:Bool->Hp->Prop} (q:R true H):ke U H R:=q
theorem i_dget {td ty:TE} {U:St} {Q:VK} (q:td U H λx H1=>ty U H1 λy H2=>∃a v,x=.ref a/\cw H2 a y (some v)/\Q v H2):u_ td ty U H Q:=q
theorem i_un {r:V->Hp->VK->Prop} {ta:TE} {U:St} {Q:VK} (q:ta U H λx H1=>r x H1 Q):tUn r ta U H Q:=q
theorem i_rU {g:Int->V} {i:Int} {Q:VK} (q:Q (g i) H):rU g (.int i) H Q:=⟨i,rfl,q⟩
end L2
namespace L2
open PySem PySem.Spec PyProof.Rows
def bJ (H:Hp) (c:Addr):Hp:=λb=>if b=c then none else H b
variable {c b f cell fa a T:Addr} {H H':Hp}
theorem cF:bJ H c c=none:=Qt rfl
theorem bp (h:b≠c):bJ H c b=H b:=Qr h
theorem p9 {o:HO} (h:bJ H c b=some o):b≠c/\H b=some o:=by
 by_cases e:b=c
 ·subst e;rw[cF]at h;cases h
 rw[bp e]at h;exact⟨e,h⟩
def c8 (o:Obj):HO:=.frz o (.ext λ_=>True)
section
variable {P:Program} {w:World} {H H1:Hp} {h h1:Heap} {c:Addr} {o:Obj} {fs ex:A3}
theorem uU {H:Hp} (e:h.get? c=some o):bo P w H h c (c8 o):=⟨e,trivial,⟨o,e⟩,λ_ _ _ _=>trivial⟩
theorem HOk.drop (x:HOk P w H h) (hc:H c=some (c8 o)):HOk P w (bJ H c) h:=λb u e=>by
 obtain⟨_,e⟩:=p9 e;refine(x b u e).stay (λ_ _ _ q=>q) (λd q=>?_) λd xs q=>?_
 ·rw[bp];exact q;intro z;subst z;rw[hc]at q;cases q
 rw[bp];exact q;intro z;subst z;rw[hc]at q;cases q
theorem HOk.take (x:HOk P w H h) (hc:H c=none) (e:h.get? c=some o):HOk P w (upd H c (c8 o)) h:=λb u q=>by
 by_cases hb:b=c
 ·subst hb;rw[ag]at q;cases q;exact uU e
 rw[ah hb]at q;refine(x b u q).stay (λ_ _ _ r=>r) (λd r=>?_) λd xs r=>?_
 ·rw[ah (am r hc)];exact r
 rw[ah (am r hc)];exact r
theorem Un.back (u:Un fs ex (bJ H c) H1 h h1) (hc:H c=some (c8 o)) (e:h.get? c=some o) (nf:c∉fs) (nx:c∉ex):Un fs ex H (upd H1 c (c8 o)) h h1/\H1 c=none/\h1.get? c=some o:=by
 have h1c:=u.free c o e cF nx;have e1:=u.keep c o e cF nf nx;have ne:∀{b v},H b=some v->v≠c8 o->b≠c:=λq n z=>by subst z;rw[hc]at q;cases q;exact n rfl
 have nn:∀{b},H b=none->b≠c:=λq z=>by subst z;rw[hc]at q;cases q
 refine⟨⟨λb ob q n hb hx=>?_,λb ob q n hb hx=>?_,λb ob q n hx=>?_,λb ob q hx=>u.there b ob q hx,λb xs q=>?_,λb ob v q=>?_,λb ps q=>?_⟩,h1c,e1⟩
 ·exact u.keep b ob q (by rw[bp (nn n)];exact n) hb hx
 ·exact u.slot b ob q (by rw[bp (nn n)];exact n) hb hx
 ·rw[ah (nn n)];exact u.free b ob q (by rw[bp (nn n)];exact n) hx
 ·have nb:=ne q (λz=>by cases z);rw[ah nb];exact u.tups b xs (by rw[bp nb];exact q)
 ·by_cases nb:b=c
  ·subst nb;rw[hc]at q;cases q;exact ag
  rw[ah nb];exact u.frzs b ob v (by rw[bp nb];exact q)
 have nb:=ne q (λz=>by cases z);rw[ah nb];exact u.tbls b ps (by rw[bp nb];exact q)
theorem Un.out (u:Un fs ex (upd H c (c8 o)) H1 h h1) (k1:HOk P w H1 h1) (hc:H c=none) (e:h.get? c=some o) (nf:c∉fs):Un fs ex H (bJ H1 c) h h1/\HOk P w (bJ H1 c) h1/\H1 c=some (c8 o):=by
 have h1c:=u.frzs c o _ ag;have e1:=(k1 c _ h1c).1;refine⟨⟨λb ob q n hb hx=>?_,λb ob q n hb hx=>?_,λb ob q n hx=>?_,λb ob q hx=>u.there b ob q hx,λb xs q=>?_,λb ob v q=>?_,λb ps q=>?_⟩,k1.drop h1c,h1c⟩
 ·by_cases nb:b=c
  ·subst nb;rw[e]at q;cases q;exact e1
  exact u.keep b ob q (by rw[ah nb];exact n) hb hx
 ·have nb:b≠c:=λz=>by subst z;exact nf hb
  exact u.slot b ob q (by rw[ah nb];exact n) hb hx
 ·by_cases nb:b=c
  ·subst nb;exact cF
  rw[bp nb];exact u.free b ob q (by rw[ah nb];exact n) hx
 ·have nb:=am q hc;rw[bp nb];exact u.tups b xs (by rw[ah nb];exact q)
 ·have nb:=am q hc;rw[bp nb];exact u.frzs b ob v (by rw[ah nb];exact q)
 have nb:=am q hc;rw[bp nb];exact u.tbls b ps (by rw[ah nb];exact q)
end
structure Lm where
 qual:Str
 params:Arguments
 body:Expr
 scope:Scope
 pos:Pos
def f_ (c:Addr) (qual:Str):HO:=.ext λh=>h.CodeRec (.ref c) qual
def f6 (f:Addr) (l:Lm) (cl:List (Str × Addr)) (c:Addr):HO:=.ext λh=>∃pm ctv,h.get? f=some (PySem.W.kla_obj "<lambda>" l.qual l.params l.body l.scope cl pm c ctv)
variable {qual y z x n:Str} {h h1:Heap}
theorem tE {P:Program} {w:World} (r:h.CodeRec (.ref c) qual):bo P w H h c (f_ c qual):=by
 obtain⟨d,oc,vs,t,e1,e2,r2⟩:=id r;cases e1;refine⟨r,⟨oc,e2⟩,λh1 h2 p k=>?_⟩;obtain⟨d,oc,vs,t,e1,e2,r2⟩:=p;cases e1;exact⟨_,oc,vs,t,rfl,k _ e2,r2⟩
variable {pm ctv u uy:Value} {cl:List (Str × Addr)}
theorem oH {P:Program} {w:World} {l:Lm} (e:h.get? f=some (PySem.W.kla_obj "<lambda>" l.qual l.params l.body l.scope cl pm c ctv)):bo P w H h f (f6 f l cl c) :=
 ⟨⟨pm,ctv,e⟩,⟨_,e⟩,λ_ _ ⟨pm,ctv,q⟩ k=>⟨pm,ctv,k _ q⟩⟩
def dA (l:Lm) (c:Addr):Array Value:=#[rawInt l.pos.line,rawInt l.pos.col,.ref c]
def bT (T:Addr) (l:Lm) (H:Hp):Prop:=H T=some (.tbl #[])\/∃c,H T=some (.tbl (dA l c))/\H c=some (f_ c l.qual)
structure Made (T:Addr) (l:Lm) (cl:List (Str × Addr)) (H:Hp) (f c:Addr) (H':Hp):Prop where
 new:H f=none
 fn:H' f=some (f6 f l cl c)
 code:H' c=some (f_ c l.qual)
 tab:H' T=some (.tbl (dA l c))
 old:∀b o,H b=some o->b≠T->H' b=some o
def eT (base:Heap) (mg:A2):Prop:=∃bm ob,mg "__builtins__" = some (.ref bm)/\bm≠builtinsNs/\bm≠mainGlobals/\base.get? bm=some ob/\ob.cls=.type "module" /\ ob.dict=some builtinsNs/\ob.data=.plain
def w_ (T:Addr) (l:Lm) (cl:List (Str × Addr)):TE:=λ_ H Q=>bT T l H/\∀f c H',Made T l cl H f c H'->Q (.ref f) H'
section
variable {X:Cx}
theorem wa {params:Arguments} {body:Expr} {scope:Scope} {pos:Pos} {cc T:Addr} {cl:List (Str × Addr)} (hcode:X.env.code=.ref cc) (C:PySem.W.CodeHd X.base cc T) (B:eT X.base X.mg) (hcl:closureFor scope X.env=pure cl) (hdef:defaultsOf params X.env=([],[]):=by rfl) :
  PE X (.Lambda params body scope pos) (w_ T ⟨X.env.qual ++ "<lambda>", params,body,scope,pos⟩ cl):=by
 intro pins s U H Q I h;obtain⟨tb,q⟩:=h;refine PySem.W.kla_eval hdef ?_;have hg:s.heap.Ns mainGlobals X.mg:=I.mod.glob.keeps I.bk;have hT:∃ps,H T=some (.tbl ps):=by rcases tb with e|⟨c,e,_⟩ <;> exact⟨_,e⟩
 obtain⟨ps0,hps0⟩:=hT
 have bne:∀{b ob},X.base.get? b=some ob->b≠T:=λe z=>by
  subst z;rw[(I.bs _ _ e).2]at hps0;cases hps0
 have hgP:mainGlobals≠T:=by
  obtain⟨o,es,ep,e,_⟩:=I.mod.glob;exact bne e
 obtain⟨bm,ob,b1,b2,b3,b4,b5,b6,b7⟩:=B;have hB:s.heap.BuiltinsAt X.mg T:=⟨bm,ob,b1,b2,b3,bne b4,I.bk _ _ b4,b5,b6,b7⟩;have CH:=C.keeps I.bk;rcases tb with e|⟨c,e,hc⟩
 ·have hP:s.heap.get? T=some (PySem.W.tabObj #[]):=I.hok T _ e;refine PySem.W.kla_makeFunction (mg:=X.mg) hcl I.ok.glob hg hcode CH hP trivial rfl hgP hB λc' ctv h' tk hx hge hlt hrec htb=>?_;have hsz:s.heap.objs.size<=h'.objs.size:=Nat.le_of_lt (XG hge hlt);have nT:T<s.heap.objs.size:=Qp hP;let f:Addr:=h'.objs.size;have Hf:H f=none:=I.hok.fresh hsz;have Hc:H c'=none:=I.hok.fresh hge;have nfc:c'≠f:=QC hlt;have nTf:T≠f:=QC (QL nT hsz);have nTc:T≠c':=QC (QL nT hge);let H':Hp:=upd (upd (upd H T (.tbl (dA ⟨X.env.qual ++ "<lambda>", params,body,scope,pos⟩ c'))) c' (f_ c' (X.env.qual ++ "<lambda>"))) f (f6 f ⟨X.env.qual ++ "<lambda>", params,body,scope,pos⟩ cl c')
  have hH:∀b o,H b=some o->b≠T->H' b=some o:=λb o e n=>by
   show upd (upd (upd H T _) c' _) f _ b=_;rw[ah (am e Hf),ah (am e Hc),ah n];exact e
  have hHT:H' T=some (.tbl (dA ⟨X.env.qual ++ "<lambda>", params,body,scope,pos⟩ c')):=by
   show upd (upd (upd H T _) c' _) f _ T=_;rw[ah nTf,ah nTc,ag]
  have hHc:H' c'=some (f_ c' (X.env.qual ++ "<lambda>")):=by
   show upd (upd (upd H T _) c' _) f _ c'=_;rw[ah nfc,ag]
  have kx:∀b o,b≠T->s.heap.get? b=some o->(h'.push (PySem.W.kla_obj "<lambda>" (X.env.qual ++ "<lambda>") params body scope cl ((X.mg "__name__").getD .none) c' ctv)).get? b=some o:=λb o n e=>Qb _ (hx b o n e);have htb':h'.get? T=some (PySem.W.tabObj (dA ⟨X.env.qual ++ "<lambda>", params,body,scope,pos⟩ c')):=by simpa[dA] using htb
  have ntb:∀{b u},H b=some u->(∀ps,u≠.tbl ps)->b≠T:=λr n z=>by
   subst z;rw[e]at r;cases r;exact n _ rfl
  have un:Un X.fs [] H H' s.heap (h'.push (PySem.W.kla_obj "<lambda>" (X.env.qual ++ "<lambda>") params body scope cl ((X.mg "__name__").getD .none) c' ctv)):=by
   have nn:∀{b},H b=none->b≠T:=λn z=>by subst z;rw[e]at n;cases n
   refine⟨λb o r n _ _=>kx b o (nn n) r,λb o r n _ _=>⟨o.slots,kx b o (nn n) r⟩,λb o r n _=>?_,λb o r _=>?_,λb xs r=>hH b _ r (ntb r λ_ z=>nomatch z),λb o v r=>hH b _ r (ntb r λ_ z=>nomatch z),λb ps r=>?_⟩
   ·have lb:b<s.heap.objs.size:=Qp r;show upd (upd (upd H T _) c' _) f _ b=none;rw[ah (QC (QL lb hsz)),ah (QC (QL lb hge)),ah (nn n)];exact n
   ·by_cases z:b=T
    ·subst z;exact⟨_,Qb _ htb'⟩
    exact⟨o,kx b o z r⟩
   by_cases z:b=T
   ·subst z;rw[e]at r;cases r;exact⟨dA ⟨X.env.qual ++ "<lambda>", params,body,scope,pos⟩ c',by rw[hHT,Array.empty_append]⟩
   exact⟨#[],by rw[hH b _ r z];simp⟩
  have hok:HOk X.prog X.w H' (h'.push (PySem.W.kla_obj "<lambda>" (X.env.qual ++ "<lambda>") params body scope cl ((X.mg "__name__").getD .none) c' ctv)):=λb u qb=>by
   have qb:upd (upd (upd H T (.tbl (dA ⟨X.env.qual ++ "<lambda>", params,body,scope,pos⟩ c'))) c' (f_ c' (X.env.qual ++ "<lambda>"))) f (f6 f ⟨X.env.qual ++ "<lambda>", params,body,scope,pos⟩ cl c') b=some u:=qb;by_cases z1:b=f
   ·subst z1;rw[ag]at qb;cases qb;exact oH (Qq _ rfl)
   rw[ah z1]at qb;by_cases z2:b=c'
   ·subst z2;rw[ag]at qb;cases qb;obtain⟨d,oc,vs,t,e1,e2,r2⟩:=hrec;exact tE ⟨d,oc,vs,t,e1,Qb _ e2,r2⟩
   rw[ah z2]at qb;by_cases z3:b=T
   ·subst z3;rw[ag]at qb;cases qb;exact Qb _ htb'
   rw[ah z3]at qb;refine(I.hok b u qb).stay (λd v hd r=>kx d v ?_ r) (λd r=>hH d _ r (ntb r λ_ z=>nomatch z)) λd xs r=>hH d _ r (ntb r λ_ z=>nomatch z);rcases hd with z|z
   ·rw[z];exact z3
   intro y;subst y;rw[e]at z;cases z
  refine⟨.ref f,H',I.un (t':=tk) un hok,rfl,q f c' H' ⟨Hf,ag,hHc,hHT,hH⟩⟩
 have hP:s.heap.get? T=some (PySem.W.tabObj (dA ⟨X.env.qual ++ "<lambda>", params,body,scope,pos⟩ c)):=I.hok T _ e;refine PySem.W.kla_makeFunctionHit (mg:=X.mg) (cv:=.ref c) hcl I.ok.glob hg hcode CH hP trivial (by simp[dA,codeAmong,rawInt]) hB λctv h' tk hk hsz=>?_;let f:Addr:=h'.objs.size;have Hf:H f=none:=I.hok.fresh hsz;refine⟨.ref f,_,I.laid (t':=tk) (a:=f) (o:=f6 f ⟨X.env.qual ++ "<lambda>", params,body,scope,pos⟩ cl c) (λb o e=>Qb _ (hk b o e)) hsz (oH (Qq _ rfl)),rfl,q f c _ ⟨Hf,ag,?_,?_,λb o e _=>?_⟩⟩
 ·rw[ah (am hc Hf)];exact hc
 ·rw[ah (am e Hf)];exact e
 rw[ah (am e Hf)];exact e
end
structure LmScope (x y:Str) (sc:Scope):Prop where
 kind:sc.kind=.function
 co:sc.isCoroutine=false
 gen:sc.isGenerator=false
 par:sc.names.lookup x=some .local
 fre:sc.names.lookup y=some .free
 ne:x≠y
 nocell:∀z∈sc.names,z.2≠.cell
 only:∀z,sc.names.lookup z=some .free->z=y
noncomputable def oY (P:Program) (w:World) (K:PySem.W.Frag) (mg:A2) (base:Heap) (x y:Str) (l:Lm) (f c cell:Addr) (A:Around) (outer:List Env) (s:Shared) (H:Hp) (E:XK):Cx where
 prog:=P
 w:=w
 K:=K
 mg:=mg
 base:=base
 A:=A.deeper (PySem.W.envX l.qual l.scope s.heap.objs.size f (.ref c) [(y,cell)])
 N:=[x,y]
 s₀:=s
 H₀:=H
 env:=PySem.W.envX l.qual l.scope s.heap.objs.size f (.ref c) [(y,cell)]
 outer:=outer
 stack:=PySem.W.envX l.qual l.scope s.heap.objs.size f (.ref c) [(y,cell)]::outer
 ex:=[]
 calm:=true
 fn:=λ_=>false
 pn:=[]
 xe:=λe s'=>wpAny (model P w) (A.deeper (PySem.W.envX l.qual l.scope s.heap.objs.size f (.ref c) [(y,cell)])) (leaving (PySem.W.envX l.qual l.scope s.heap.objs.size f (.ref c) [(y,cell)]) e) (λ_ s''=>CX0 outer H s E e s'') (λe' s''=>CX0 outer H s E e' s'') s'
theorem lk1 (h:[(y,cell)].lookup z=some c):z=y/\c=cell:=by
 rw[QZ]at h;by_cases e:(z==y)=true
 ·rw[e]at h;cases h;exact⟨eq_of_beq e,rfl⟩
 have e:(z==y)=false:=by simpa using e
 rw[e]at h;cases h
theorem lg:[(y,cell)].lookup y=some cell:=by
 rw[QZ,beq_self_eq_true]
variable {s s₁:Shared}
theorem uB {P:Program} {w:World} {K:PySem.W.Frag} {mg:A2} {base:Heap} {l:Lm} {f c:Addr} {A:Around} {outer:List Env} {E:XK} {vx vy:V} {tk:Nat}
  (S:LmScope x y l.scope) (hd:A.handled=none) (e0:Env0 P w K mg base A outer s H) (rx:aI vx u) (ry:aI vy uy) (hc:s.heap.IsCell cell (some uy)) (hH:H cell=none)
  (hns:h1.Ns s.heap.objs.size (λz=>[(x,u)].reverse.lookup z)) (hk:∀b o,s.heap.get? b=some o->h1.get? b=some o) :
  Inv (oY P w K mg base x y l f c cell A outer s H E) [] [some vx,some vy] H { s with heap:=h1,toks:=tk }:=by
 have noA:∀b:Addr,b∉(oY P w K mg base x y l f c cell A outer s H E).ex:=λb z=>absurd (show b∈([]:A3) from z) (by simp);have hc1:h1.IsCell cell (some uy):=by obtain⟨o,e1,e2⟩:=hc;exact⟨o,hk _ _ e1,e2⟩
 refine⟨⟨e0.mod,S.kind,rfl,rfl,Qg _,λy' z c h1 h2=>(lk1 h1).1.trans (lk1 h2).1.symm,λz hz=>?_,(λy c h _=>nomatch h),λ_=>hd,Around.frames_deeper e0.frames,.inr ⟨rfl,rfl⟩,λb z=>absurd z (noA b),e0.bs,e0.bsz,λb _ _=>noA b,λb z=>absurd z (noA b),e0.funs,e0.frf⟩,
  rfl,e0.bare,Un.kept hk,⟨_,hns,λi z v h1 h2 h3=>?_⟩,λz c h=>?_,e0.hok.fresh (Qg _),λz c h=>?_,λp hp=>absurd (show p∈([]:A1) from hp) (by simp),e0.hok.kept hk,rfl⟩
 ·have hz:l.scope.names.lookup z=some .cell\/l.scope.names.lookup z=some .free:=hz;rcases hz with hz|hz
  ·exact absurd rfl (S.nocell _ (PySem.mem_of_lookup hz))
  rw[S.only z hz];exact⟨cell,lg⟩
 ·match i with
  | 0 =>
   cases h1;cases h2;refine⟨u,rx,.inl ⟨S.par,?_⟩⟩;show [(x,u)].reverse.lookup x=some u;simp[List.lookup]
  | 1 =>
   cases h1;cases h2;exact⟨uy,ry,.inr ⟨.inr S.fre,cell,lg,hc1⟩⟩
  | i+2 =>
   exact absurd h1 (by show ([x,y]:List Str)[i+2]?≠some z;simp)
 ·rw[(lk1 h).2];exact⟨_,hc1⟩
 rw[(lk1 h).2];exact hH
theorem ut {P:Program} {w:World} {K:PySem.W.Frag} {mg:A2} {base:Heap} {l:Lm} {A:Around} {outer:List Env} {Q:VK} {E:XK} {vx vy:V} {k:Nat} {t:TE} {args:Args}
  (S:LmScope x y l.scope) (hr:Room (k+1) A) (e0:Env0 P w K mg base A outer s H) (rx:aI vx u) (ry:aI vy uy) (hc:s.heap.IsCell cell (some uy)) (hH:H cell=none)
  (hf:s.heap.get? f=some (PySem.W.kla_obj "<lambda>" l.qual l.params l.body l.scope [(y,cell)] pm c ctv)) (hcd:s.heap.CodeRec (.ref c) l.qual) (hb:bindArgs (PySem.W.kla_fn "<lambda>" l.qual l.params l.body l.scope [(y,cell)] pm (.ref c) ctv) args=pure [(x,u)])
  (body:Room k (A.deeper (PySem.W.envX l.qual l.scope s.heap.objs.size f (.ref c) [(y,cell)]))->PE (oY P w K mg base x y l f c cell A outer s H E) l.body t) (q:t [some vx,some vy] H Q):codeAny (model P w) A (.call (.ref f) args) (CR CX0 outer P w H s Q E) s:=by
 have lim:s.heap.NoLimit:=e0.mod.nolimit.keeps λb o e=>(e0.bs b o e).1;refine PySem.W.kla_callFunE hr.depth hf rfl S.co S.gen rfl hcd ?_;rw[hb];refine Qf (wpAny_newFunctionEnv S.nocell (λz hz=>by rw[QB.mp hz];exact S.par) (λh1 hns hsb=>?_) S.kind);have hk1:∀b o,s.heap.get? b=some o->h1.get? b=some o:=λb o e=>hsb.extBut b o (QC (Qp e)) (Qb _ e);refine⟨lim.keeps hk1,?_⟩;show codeAny _ _ (.expr l.body (PySem.W.envX l.qual l.scope s.heap.objs.size f (.ref c) [(y,cell)])) _ _;have I:=uB (f:=f) (c:=c) (E:=E) (tk:=s.toks+[(x,u)].length) S hr.hd e0 rx ry hc hH hns hk1;refine PySem.W.kla_codeExpr (XM (body (hr.deeper _) [] _ _ H Q I q) (λv s' hs=>?_) λe s' hs=>hs);obtain⟨v',H',J,rv,qv⟩:=hs;exact⟨v',H',J.os,J.bare,J.base,J.hok,rv,qv⟩
def Calls (P:Program) (w:World) (K:PySem.W.Frag) (mg:A2) (base:Heap) (k:Nat) (f:Addr) (r:V->Hp->VK->Prop):Prop :=
 ∀(X:Cx),X.prog=P->X.w=w->X.K=K->X.mg=mg->X.base=base->ij CX0 X E0->Room k X.A->∀pins s U H vx u (Q:VK),Inv X pins U H s->aI vx u->r vx H Q->wpAny (model X.prog X.w) X.A (call (.ref f) [u]) (EP X pins U Q) X.xe s
def xq (f:Addr) (l:Lm) (y:Str) (cell c:Addr) (t:TE):V->Hp->VK->Prop:=λvx H Q=>∃(o:Obj) (uy:Value) (vy:V),H f=some (f6 f l [(y,cell)] c)/\H c=some (f_ c l.qual)/\H cell=some (c8 o)/\o.data=.cell (some uy)/\aI vy uy /\
 t [some vx,some vy] (bJ H cell) λv H'=>Q v (upd H' cell (c8 o))
theorem qf {P:Program} {w:World} {K:PySem.W.Frag} {mg:A2} {base:Heap} {l:Lm} {k:Nat} {t:TE} (S:LmScope x y l.scope)
  (hb:∀(pm ctv u:Value),bindArgs (PySem.W.kla_fn "<lambda>" l.qual l.params l.body l.scope [(y,cell)] pm (.ref c) ctv) ⟨[u],[]⟩=pure [(x,u)])
  (body:∀(A:Around) (outer:List Env) (s:Shared) (H:Hp),Room k (A.deeper (PySem.W.envX l.qual l.scope s.heap.objs.size f (.ref c) [(y,cell)]))->PE (oY P w K mg base x y l f c cell A outer s H E0) l.body t) :
  Calls P w K mg base (k+1) f (xq f l y cell c t):=by
 intro X e1 e2 e3 e4 e5 hx hr pins s U H vx u Q I rx h;subst e1 e2 e3 e4 e5;obtain⟨o,uy,vy,hf,hc,hcell,hd,ry,q⟩:=h;obtain⟨pm,ctv,ef⟩:=(I.hok f _ hf).1;have ec:s.heap.CodeRec (.ref c) l.qual:=(I.hok c _ hc).1;have eo:s.heap.get? cell=some o:=(I.hok cell _ hcell).1;have e0:=I.env0
 have nf:cell∉frs X.stack:=λz=>by
  have:=e0.frf cell z;rw[hcell]at this;cases this
 have e0':Env0 X.prog X.w X.K X.mg X.base X.A X.stack s (bJ H cell):=⟨e0.frames,e0.mod,λb ob e=>⟨(e0.bs b ob e).1,by
  by_cases z:b=cell
  ·rw[z];exact cF
  ·rw[bp z];exact(e0.bs b ob e).2⟩,e0.bsz,e0.funs,λb hb=>by
  by_cases z:b=cell
  ·rw[z];exact cF
  rw[bp z];exact e0.frf b hb,e0.hok.drop hcell,e0.bare⟩
 refine wpAny_call (codeAny_mono (ut (E:=E0) S hr e0' rx ry ⟨o,eo,hd⟩ cF ef ec (hb pm ctv u) (body X.A X.stack s (bJ H cell)) q) λr s' hq=>?_)
 cases r with
 | error e=>exact False.elim hq
 | ok fl =>
 cases fl with
 | ret u =>
  obtain⟨v,H',os,bare,un,hok,rv,qv⟩:=hq;obtain⟨un',n',e'⟩:=un.back hcell eo nf (by simp);exact I.after ⟨v,_,os,bare,un',hok.take n' e',rv,qv⟩
 | next=>exact False.elim hq
 | brk=>exact False.elim hq
 | cont=>exact False.elim hq
def qE (P:Program) (w:World) (K:PySem.W.Frag) (mg:A2) (base:Heap) (k i:Nat) (te:TE):TE:=λU H Q=>∃f l cl c r,U[i]?=some (some (.ref f))/\Calls P w K mg base k f r/\H f=some (f6 f l cl c)/\te U H λv H1=>H1 f=some (f6 f l cl c)/\r v H1 Q
variable {U:St} {pins:A1} {X:Cx}
theorem lG {l:Lm} (I:Inv X pins U H s) (h:H f=some (f6 f l cl c)):PySem.W.FnAt f s.heap:=by
 obtain⟨pm,ctv,e⟩:=(I.hok f _ h).1;exact⟨_,_,_,_,e⟩
theorem rJ {k i:Nat} {e:Expr} {te:TE} {p pos:Pos} (hr:Room k X.A) (hx:ij CX0 X E0) (hn:PE X (.Name n p) (eI i)) (he:PE X e te) (hs:starEach [e] X.env=[(false,eval e X.env)]:=by rfl) (hs0:starEach ([]:List Expr) X.env=[]:=by rfl) (hpl:(backTo pos (starEach [] X.env)).any (·.1)=false:=by rfl) :
  PE X (.Call (.Name n p) [e] [] pos) (qE X.prog X.w X.K X.mg X.base k i te):=by
 intro pins s U H Q I h;obtain⟨f,l,cl,c,r,hi,C,hf,h⟩:=h;refine wpAny_Call_Name_kw (thn (hn pins s U H (λv H1=>v=.ref f/\H1=H) I ⟨_,hi,rfl,rfl⟩) λu s1 ⟨v,H1,I1,ru,ev,eh⟩=>?_);subst ev eh;obtain rfl:u=Value.ref f:=ru;refine PySem.W.callWith_F (lG I1 hf) ?_ (by rw[hs,hs0]) hpl;rw[hs];refine XR (thn (he pins s1 U H1 _ I1 h) λiv s2 ⟨v,H2,I2,rv,hf2,q⟩=>?_);refine Calls.spliced_nil ⟨lG I2 hf2,?_⟩;exact C X rfl rfl rfl rfl rfl hx hr pins s2 U H2 v iv Q I2 rv q
theorem Inv.cellAt {i:Nat} {vy:V} (I:Inv X pins U H s) (hN:X.N[i]?=some y) (hi:U[i]?=some (some vy)) (hk:X.env.kindOf y=some .cell) (hv:Vis X.env.scope y) (hl:X.env.cells.lookup y=some cell) :
  ∃o uy,s.heap.get? cell=some o/\o.data=.cell (some uy)/\aI vy uy/\H cell=none:=by
 obtain⟨m,_,loc⟩:=I.loc;obtain⟨u,ru,lk⟩:=loc i y vy hN hi hv;rcases lk with⟨k,_⟩|⟨_,c,e,o,e1,e2⟩
 ·rw[hk]at k;cases k
 rw[hl]at e;cases e;exact⟨o,u,e1,e2,ru,I.freeC y cell hl⟩
theorem Inv.cellOut (I:Inv X pins U H s) (hf:X.fn y=true) (hl:X.env.cells.lookup y=some cell):cell∉frs X.stack:=λz=>by
 have ab:=I.ok.cab y cell hf hl
 have no:cell∉frs X.outer:=λz=>by
  obtain⟨_,o,ho,_⟩:=I.ok.funs.mem z;exact absurd (Qp ho) (Nat.not_lt.mpr ab)
 rcases I.ok.stk with e|⟨e,fr⟩
 ·rw[e]at z;exact no z
 rw[e]at z;unfold frs at z;rw[List.filterMap_cons,fr]at z;rcases Qh.mp z with z|z
 ·exact I.cne y cell hl z
 exact no z
def vS (sp:Sp) (i:Nat) (cell:Addr) (t:TA):TE:=λU H Q=>t U H λvs H1=>∃vy,U[i]?=some (some vy)/\∀o uy,o.data=.cell (some uy)->aI vy uy->H1 cell=none->sp vs (upd H1 cell (c8 o)) (λv H2=>Q v (bJ H2 cell)) E0
variable {ps loose:List Str}
theorem we {k i:Nat} {sp:Sp} {e:Expr} {es:List Expr} {t:TA} {p pos:Pos} (F:Fn X.prog X.w X.K X.mg X.base x ps k sp) (hr:Room k X.A) (hg:Gl X x) (ha:PA X (e::es) t)
  (hN:X.N[i]?=some y) (hky:X.env.kindOf y=some .cell) (hv:Vis X.env.scope y) (hl:X.env.cells.lookup y=some cell) (hfn:X.fn y=true)
  (hdb:(x==("__debug__" : Str))=false:=by decide) (he:starEach (e::es) X.env=(false,eval e X.env)::starEach es X.env:=by rfl) (hpl:(backTo pos (starEach es X.env)).any (·.1)=false:=by rfl) :
  PE X (.Call (.Name x p) (e::es) [] pos) (vS sp i cell t):=by
 obtain⟨f,fd,G,hm,hk,hb⟩:=F.ex;intro pins s U H Q I h;refine wpAny_Call_Name_kw (jF I hg hm ?_ hdb);refine PySem.W.callWith_K (h₀:=X.base) I.ok.mod.kin hk (thn (ha pos pins s U H _ I h) λus s1 ⟨vs,H1,I1,r,q⟩=>⟨I1.kIn,?_⟩) he hpl;obtain⟨vy,hi,q⟩:=q;obtain⟨o,uy,e1,e2,ry,hn⟩:=I1.cellAt hN hi hky hv hl;have nf:=I1.cellOut hfn hl;have ab:=I1.ok.cab y cell hfn hl;have e0:=I1.env0
 have e0':Env0 X.prog X.w X.K X.mg X.base X.A X.stack s1 (upd H1 cell (c8 o)):=⟨e0.frames,e0.mod,λb ob e=>⟨(e0.bs b ob e).1,by
  rw[ah]
  ·exact(e0.bs b ob e).2
  ·intro z;have:=Qp (I1.ok.bs b ob e).1;rw[z]at this
   exact absurd this (Nat.not_lt.mpr ab)⟩,e0.bsz,e0.funs,λb hb=>by
  rw[ah]
  ·exact e0.frf b hb
  intro z;rw[z]at hb;exact nf hb,e0.hok.take hn e1,e0.bare⟩
 have hl2:us.length=ps.length:=by rw[<-r.length];exact G.len _ _ _ _ (q o uy e2 ry hn)
 refine wpAny_call (codeAny_mono (G.run X.A X.stack s1 _ ⟨us,[]⟩ us vs _ E0 hr e0' (by have:=hb s1 us I1.kIn (by rw[List.append_nil];exact hl2);rwa [List.append_nil]at this) r (q o uy e2 ry hn)) λrr s' hq=>?_)
 cases rr with
 | error e=>exact False.elim hq
 | ok fl =>
 cases fl with
 | ret u =>
  obtain⟨v,H',os,bare,un,hok,rv,qv⟩:=hq;obtain⟨un',hok',_⟩:=un.out hok hn e1 nf;exact I1.after ⟨v,_,os,bare,un',hok',rv,qv⟩
 | next=>exact False.elim hq
 | brk=>exact False.elim hq
 | cont=>exact False.elim hq
structure FunC (K:PySem.W.Frag) (x qual:Str) (st:Stmt) (f:Addr) (fd:FuncData) (c:Addr):Prop where
 ex:∃oc od kV doc pm an ct osl,fd=PySem.W.fnOf x qual (cH st) (bP st) (ax st) .none kV doc pm an (.ref c) ct/\K.lookup f=some ⟨oc,od,.func (PySem.W.fnOf x qual (cH st) (bP st) (ax st) .none kV doc pm an (.ref c) ct),osl⟩/\PySem.W.codeIn K (.ref c) qual=true
section
variable {P:Program} {w:World} {K:PySem.W.Frag} {mg:A2} {base:Heap}
theorem FunC.ok {x qual:Str} {st:Stmt} {f c:Addr} {fd:FuncData} {N ps:List Str} {k:Nat} {sp:Sp} (F:FunC K x qual st f fd c) (S:FnScope N ps (ax st)) (len:∀vs H Q E,sp vs H Q E->vs.length=ps.length)
  (hbody:∀(A:Around) (outer:List Env) (s:Shared) (H:Hp) (vs:List V) (Q:VK) (E:XK),Room k (A.deeper (envOfC qual (ax st) s.heap.objs.size f (.ref c)))->sp vs H Q E ->
   ∃t,PSs (cxOf CX0 P w K mg base N qual (ax st) f (.ref c) A outer s H E).nox (bP st) t/\t { nx:=λ_ H'=>Q .non H',rt:=Q } (start N vs) H):FnOk P w K mg base CX0 (k+1) f fd ps sp:=by
 obtain⟨oc,od,kV,doc,pm,an,ct,osl,rfl,lk,hcd⟩:=F.ex;refine vD lk hcd S len λA outer s H vs Q E hr hsp=>?_;obtain⟨t,h,q⟩:=hbody A outer s H vs Q E hr hsp;exact⟨t,h.nox,q⟩
end
structure OnlyT (tabs:List (Addr × Addr)) (H:Hp):Prop where
 tab:∀q∈tabs,H q.2=some (.tbl #[])
 other:∀b,b∉tabs.map (·.2)->H b=none\/∃o xs,H b=some (.frz o (.lst xs))
theorem pR {P:Program} {w:World} {K:PySem.W.Frag} {mg mb:A2} {CX:CXT} {k:Nat} {fd:FuncData} {sp:Sp} {vs:List Value} {ns:List Int} {tabs:List (Addr × Addr)}
  (KX:K.In s₁.heap) (hns:s₁.heap.Ns mainGlobals mg) (hb:s₁.heap.Ns builtinsNs mb) (hbb:∀x:Str,x ≠ "__name__" -> mb x=bootBuiltins x) (hlim:s₁.heap.NoLimit) (hg:s₁.gens=#[])
  (hbm:eT s₁.heap mg) (hT:PySem.W.TabsAt tabs s₁.heap) (hTK:∀q∈tabs,K.lookup q.2=none)
  (ha:s₁.heap.get? a=some { cls:=.type "list", data:=.seq vs.toArray }) (hi:IntsAre vs ns) (hl:ns.length<=sizeLine) (hr:Room k callerA)
  (F:∀base:Heap,K.In base->base.Ns mainGlobals mg->eT base mg->FnOk P w K mg base CX k fa fd [x] sp) (hbind:∀(s:Shared) (u:Value),BindsTo s fd ⟨[u],[]⟩ [(x,u)])
  (hsp:∀H:Hp,OnlyT tabs H->SqL K H a (ns.map V.int)->sp [.ref a] H (λv _=>v=.bl true) λ_ _ _=>False)
  (hCX:∀H e s',CX [] H s₁ (λ_ _ _=>False) e s'->False) :
  codeAny (model P w) callerA (.call (.ref fa) ⟨[.ref a],[]⟩) (λr s'=>r=.ok (.ret (.bool true))/\OldK s₁.heap s'.heap/\s'.os=s₁.os/\AllBare s'.gens) s₁:=by
 have rv:=iB hi;have lenV:=hi.length
 have naT:a∉tabs.map (·.2):=λq=>by
  obtain⟨r,hr,e⟩:=Qj.mp q;have e2:=(hT r hr).2;rw[e,ha]at e2;cases e2
 have core:∀H:Hp,OnlyT tabs H->SqL K H a (ns.map V.int)->HOk P w H s₁.heap->(∀b,H b≠none->b=a\/b∈tabs.map (·.2))->(H a≠none->K.lookup a=none) ->
   codeAny (model P w) callerA (.call (.ref fa) ⟨[.ref a],[]⟩) (λr s'=>r=.ok (.ret (.bool true))/\OldK s₁.heap s'.heap/\s'.os=s₁.os/\AllBare s'.gens) s₁:=by
  intro H hO hS hok hA hK;have base_of:∀{b:Addr} {o:Obj},s₁.heap.get? b=some o->H b=none->(iu s₁.heap H).get? b=some o:=λe n=>sO e n
  have noA:∀{b:Addr} {o:Obj},s₁.heap.get? b=some o->(∀ps n,o.data≠.seq ps n)->(∀ps,o.data≠.fields ps)->H b=none:=λ{b o} e d1 d2=>by
   cases q:H b with
   | none=>rfl
   | some u =>
   rcases hA b (by rw[q];simp) with e'|e'
   ·subst e';rw[ha]at e;cases e;exact absurd rfl (d1 _ _)
   obtain⟨r,hr,er⟩:=Qj.mp e';have e2:=(hT r hr).2;rw[er,e]at e2;cases e2;exact absurd rfl (d2 _)
  have nsK:∀{b:Addr} {m:A2},s₁.heap.Ns b m->(iu s₁.heap H).Ns b m:=λ{b m} ⟨o,es,ep,e,d,r⟩=>⟨o,es,ep,base_of e (noA e (λ_ _ z=>by rw[d]at z;cases z) (λ_ z=>by rw[d]at z;cases z)),d,r⟩
  have hKb:K.In (iu s₁.heap H):=λb o e=>base_of (KX b o e) (by
   cases q:H b with
   | none=>rfl
   | some u =>
   rcases hA b (by rw[q];simp) with e'|e'
   ·subst e';rw[hK (by rw[q];simp)]at e;cases e
   obtain⟨r,hr,er⟩:=Qj.mp e';have e2:=hTK r hr;rw[er,e]at e2
   cases e2)
  have hM:Mod K mg (iu s₁.heap H):=⟨hKb,nsK hns,⟨mb,nsK hb,hbb⟩,let ⟨mc,h1,h2⟩:=hlim;⟨mc,nsK h1,h2⟩⟩
  have hB:eT (iu s₁.heap H) mg:=by
   obtain⟨bm,ob,b1,b2,b3,b4,b5,b6,b7⟩:=hbm;exact⟨bm,ob,b1,b2,b3,base_of b4 (noA b4 (λ_ _ z=>by rw[b7]at z;cases z) (λ_ z=>by rw[b7]at z;cases z)),b5,b6,b7⟩
  have e0:Env0 P w K mg (iu s₁.heap H) callerA [] s₁ H:=⟨rfl,hM,λb o e=>uh e,Nat.le_of_eq (pX _ _),trivial,λb hb=>absurd (show b∈([]:A3) from hb) (by simp),hok,.of_eq hg⟩;refine codeAny_mono ((F _ hKb (nsK hns) hB).run callerA [] s₁ H ⟨[.ref a],[]⟩ [.ref a] [.ref a] _ _ hr e0 (hbind s₁ (.ref a)) (.cons rfl .nil) (hsp H hO hS)) λr s' h=>?_
  cases r with
  | error e=>exact(hCX H e s' h).elim
  | ok fl =>
  cases fl with
  | next=>exact False.elim h
  | brk=>exact False.elim h
  | cont=>exact False.elim h
  | ret u =>
  obtain⟨v,H',os,bare,un,hok',r',q⟩:=h;have q':v=.bl true:=q;subst q';obtain rfl:u=Value.bool true:=r';refine⟨rfl,⟨λb o e=>?_,λb o e=>un.there b o e (by simp)⟩,os,bare⟩
  cases q:H b with
  | none=>exact .inl (un.keep b o e q (by intro z;exact absurd (show b∈([]:A3) from z) (by simp)) (by simp))
  | some u =>
  by_cases hb:b∈tabs.map (·.2)
  ·obtain⟨r,hr,er⟩:=Qj.mp hb;have t1:=hO.tab r hr;have e2:=(hT r hr).2;have ict:=((hT r hr).1.tab (hT r hr).2).isCodeTable;rw[er]at t1 e2 ict;rw[e]at e2;cases e2;obtain⟨more,t2⟩:=un.tbls b _ t1;have t3:s'.heap.get? b=some { cls:=.none,data:=.fields (#[]++more) }:=hok' b _ t2;exact .inr (.inl ⟨ict,rfl,#[],more,rfl,t3⟩)
  rcases hO.other b hb with z|⟨ob,xs,z⟩
  ·rw[q]at z;cases z
  have z2:=un.frzs b ob _ z;obtain⟨e1,_⟩:=hok b _ z;obtain⟨e2,_⟩:=hok' b _ z2;rw[e]at e1;cases e1;exact .inl e2
 let HT:Hp:=λb=>if b∈tabs.map (·.2) then some (.tbl #[]) else none
 have htab:∀b,b∈tabs.map (·.2)->s₁.heap.get? b=some (PySem.W.tabObj #[]):=λb hb=>by
  obtain⟨r,hr,er⟩:=Qj.mp hb;rw[<-er];exact(hT r hr).2
 cases hk:K.lookup a with
 | some o =>
  have e:=KX a o hk;rw[ha]at e;cases e;refine core HT ⟨λq hq=>Qt (Qj.mpr ⟨q,hq,rfl⟩),λb hb=>.inl (Qr hb)⟩ (.inr ⟨_,vs.toArray,_,hk,rfl,rfl,rfl,by rw[Qi,lenV];exact hl,by simpa using rv⟩) (λb u z=>?_) (λb z=>?_) λz=>absurd (Qr naT) z
  ·by_cases hb:b∈tabs.map (·.2)
   ·have z':=(Qt hb).symm.trans z;cases z';exact htab b hb
   have z':=(Qr hb).symm.trans z;cases z'
  by_cases hb:b∈tabs.map (·.2)
  ·exact .inr hb
  exact absurd (Qr hb) z
 | none =>
 let HA:Hp:=λb=>if b=a then some (.frz { cls:=.type "list", data:=.seq vs.toArray } (.lst (ns.map V.int))) else HT b;have hA1:HA a=some (.frz { cls:=.type "list", data:=.seq vs.toArray } (.lst (ns.map V.int))):=Qt rfl;have hA2:∀b,b≠a->HA b=HT b:=λb h=>Qr h;refine core HA ⟨λq hq=>?_,λb hb=>?_⟩ (.inl (.inr ⟨{ cls:=.type "list", data:=.seq vs.toArray },hA1⟩)) (λb u z=>?_) (λb z=>?_) λ_=>hk
 ·rw[hA2 _ λz=>naT (Qj.mpr ⟨q,hq,z⟩)];exact Qt (Qj.mpr ⟨q,hq,rfl⟩)
 ·by_cases hba:b=a
  ·subst hba;exact .inr ⟨_,_,hA1⟩
  rw[hA2 b hba];exact .inl (Qr hb)
 ·by_cases hba:b=a
  ·subst hba;rw[hA1]at z;cases z;exact⟨ha,by rw[Qd];exact hl,vs,_,rv,ha⟩
  rw[hA2 b hba]at z;by_cases hb:b∈tabs.map (·.2)
  ·have z':=(Qt hb).symm.trans z;cases z';exact htab b hb
  have z':=(Qr hb).symm.trans z;cases z'
 by_cases hba:b=a
 ·exact .inl hba
 rw[hA2 b hba]at z;by_cases hb:b∈tabs.map (·.2)
 ·exact .inr hb
 exact absurd (Qr hb) z
theorem tH {p:Program} {mean:ExcName->Option Value} {mg mb:A2} (T:Top p loose mean mg mb h):eT h mg:=by
 obtain⟨bm,ob,b1,b2,b3,b4,b5,b6⟩:=T.bmain;refine⟨bm,ob,b1,b2,λq=>?_,b3,b4,b5,b6⟩;obtain⟨o,es,ep,e,hd,_⟩:=T.g;rw[q,e]at b3;cases b3;rw[hd]at b6;cases b6
variable {XP:A2->Heap->Prop} {l:PySem.W.OpenLaw}
theorem qo {n k:Nat} {q:Program} {YP:World->Heap->Prop} {d:DefRec} {K:Params->PySem.W.Frag} {CX:World->CXT} {sp:World->Sp} (tabs:World->List (Addr × Addr))
  (hn:l.most=some n) (hn2:n<=sizeLine) (hdf:d.params.defaults=[]) (hr:Room k callerA)
  (hY:∀(w:World) (h:Heap),YP w h->(K w.params).In h) (hY2:∀(w:World) (h:Heap),YP w h->PySem.W.TabsAt (tabs w) h) (hTK:∀(w:World),∀q∈tabs w,(K w.params).lookup q.2=none)
  (F:∀(w:World) (mg:A2) (fa:Addr) (h:Heap),(K w.params).In h->h.Ns mainGlobals mg->mg d.name=some (.ref fa) ->
   ∃fd:FuncData,(∀(s:Shared) (u:Value),BindsTo s fd ⟨[u],[]⟩ [(x,u)]) /\
    ∀base:Heap,(K w.params).In base->base.Ns mainGlobals mg->eT base mg->FnOk l.prog w (K w.params) mg base (CX w) k fa fd [x] (sp w))
  (hsp:∀(w:World) (H:Hp) (a:Addr) (ns:List Int),ns.length<=n->OnlyT (tabs w) H->SqL (K w.params) H a (ns.map V.int)->sp w [.ref a] H (λv _=>v=.bl true) λ_ _ _=>False)
  (hCX:∀(w:World) (H:Hp) (s:Shared) (e:Value) (s':Shared),CX w [] H s (λ_ _ _=>False) e s'->False) :
  PySem.W.WalkO q loose XP YP l.row.toRowW d [] (λf vs=>PySem.call f vs):=by
 refine Att.lR hn hdf λw s₀ s₁ mg mb fa o pm cd doc a vs ns G Y ho hd hcd hmg hobj hints hlen hg=>?_;have KX:=hY w _ Y;obtain⟨fd,hb,hF⟩:=F w mg fa _ KX G.T.g hmg;exact pR KX G.T.g G.T.b G.T.builtins G.T.nolimit hg (tH G.T) (hY2 w _ Y) (hTK w) hobj hints (QG hlen hn2) hr hF hb (λH hO hS=>hsp w H a ns hlen hO hS) λH e s'=>hCX w H s₁ e s'
def mQ (K:PySem.W.Frag) (ts:A3):List (Addr × Addr):=ts.flatMap λT=>(K.filter λp=>PySem.W.codeHdIn K p.1 T).map λp=>(p.1,T)
def fo (K:PySem.W.Frag) (ts:A3):Bool:=ts.all λT=>(K.any λp=>PySem.W.codeHdIn K p.1 T)&&(K.lookup T).isNone
variable {ts as:A3}
theorem gR {K:PySem.W.Frag} {q:Addr × Addr} (h:q∈mQ K ts):q.2∈ts/\PySem.W.codeHdIn K q.1 q.2=true:=by
 obtain⟨T,hT,h⟩:=List.mem_flatMap.mp h;obtain⟨p,hp,rfl⟩:=Qj.mp h;exact⟨hT,(QR.mp hp).2⟩
theorem mP {K:PySem.W.Frag} (ok:fo K ts=true) (hT:T∈ts):∃c,(c,T)∈mQ K ts:=by
 have h:=Q7.mp ok T hT;rw[Xz]at h;obtain⟨p,hp,e⟩:=List.any_eq_true.mp h.1;exact⟨p.1,List.mem_flatMap.mpr ⟨T,hT,Qj.mpr ⟨p,QR.mpr ⟨hp,e⟩,rfl⟩⟩⟩
theorem mO {K:PySem.W.Frag} (ok:fo K ts=true) (hT:T∈ts):K.lookup T=none:=by
 have h:=Q7.mp ok T hT;rw[Xz]at h;exact Option.isNone_iff_eq_none.mp h.2
theorem qq {n k:Nat} {q:Program} {d:DefRec} {K:Params->PySem.W.Frag} {e:∀P,as=(K P).map (·.1)} {CX:World->CXT} {sp:World->Sp}
  (hn:l.most=some n) (hn2:n<=sizeLine) (hdf:d.params.defaults=[]) (hr:Room k callerA) (ok:∀w:World,fo (K w.params) ts=true)
  (F:∀(w:World) (mg:A2) (fa:Addr) (h:Heap),(K w.params).In h->h.Ns mainGlobals mg->mg d.name=some (.ref fa) ->
   ∃fd:FuncData,(∀(s:Shared) (u:Value),BindsTo s fd ⟨[u],[]⟩ [(x,u)]) /\
    ∀base:Heap,(K w.params).In base->base.Ns mainGlobals mg->eT base mg->FnOk l.prog w (K w.params) mg base (CX w) k fa fd [x] (sp w))
  (hsp:∀(w:World) (H:Hp) (a:Addr) (ns:List Int),ns.length<=n->(∀T∈ts,H T=some (.tbl #[]))->SqL (K w.params) H a (ns.map V.int)->sp w [.ref a] H (λv _=>v=.bl true) λ_ _ _=>False)
  (hCX:∀(w:World) (H:Hp) (s:Shared) (e:Value) (s':Shared),CX w [] H s (λ_ _ _=>False) e s'->False) :
  PySem.W.WalkO q loose XP (PySem.W.kmHook K as e ts).says l.row.toRowW d [] (λf vs=>PySem.call f vs):=by
 refine qo (λw=>mQ (K w.params) ts) hn hn2 hdf hr (λw h Y=>PySem.W.km_in_of Y) (λw h Y q hq=>?_) (λw q hq=>mO (ok w) (gR hq).1) F (λw H a ns h1 hO hS=>hsp w H a ns h1 (λT hT=>?_) hS) hCX
 ·obtain⟨h1,h2⟩:=gR hq;exact⟨PySem.W.codeHd_of_K (PySem.W.km_in_of Y) h2,PySem.W.km_tabs_of Y _ h1⟩
 obtain⟨c,hc⟩:=mP (ok w) hT;exact hO.tab _ hc
def Fz:HO->Prop
 | .dK _=>True
 | .dT _=>True
 | .lst _=>True
 | _=>False
def back (H:Hp) (a:Addr) (H':Hp):Hp:=λb=>if b=a then H a else H' b
theorem fY:back H a H' a=H a:=Qt rfl
theorem bD (h:b≠a):back H a H' b=H' b:=Qr h
section
variable {X:Cx} {pins:A1} {U σ':St} {H H':Hp} {s s':Shared} {a:Addr} {u:HO} {o:Obj}
theorem jx (r:Rd H a u):∃v,H a=some v:=by
 rcases r with r|⟨o,r⟩ <;> exact⟨_,r⟩
theorem vi (r:Rd H a u) (f:Fz u):(∀xs,H a≠some (.tup xs))/\(∀ps,H a≠some (.tbl ps))/\(∀x,H a≠some (.own x))/\∀ob v,H a=some (.frz ob v)->v=u:=by
 rcases r with r|⟨o,r⟩
 ·refine⟨λxs z=>?_,λps z=>?_,λx z=>?_,λob v z=>?_⟩ <;> (rw[r]at z;cases z;exact f.elim)
 refine⟨λxs z=>?_,λps z=>?_,λx z=>?_,λob v z=>?_⟩ <;> (rw[r]at z;cases z);rfl
theorem Inv.freeze (I:Inv X pins U H s) (r:Rd H a u) (f:Fz u) (e:s.heap.get? a=some o):Inv X pins U (upd H a (.frz o u)) s:=by
 obtain⟨v,hv⟩:=jx r;obtain⟨n1,n2,n3,n4⟩:=vi r f;have ne:∀{b},H b=none->b≠a:=λh z=>by rw[z,hv]at h;cases h
 have ok:=r.ok I.hok;refine⟨I.ok,I.os,I.bare,⟨I.base.keep,I.base.slot,λb ob q n hx=>?_,I.base.there,λb xs q=>?_,λb ob w q=>?_,λb ps q=>?_⟩,I.loc,I.cell,?_,λx c h=>?_,λp hp=>?_,λb w q=>?_,I.len⟩
 ·have:=I.base.free b ob q n hx;rw[ah (ne this)];exact this
 ·have:=I.base.tups b xs q;rw[ah (λz=>n1 xs (by rw[<-z];exact this))];exact this
 ·have z:=I.base.frzs b ob w q;by_cases hb:b=a
  ·subst hb;have ew:=n4 ob w z;subst ew;obtain⟨e1,_⟩:=I.hok b _ z;rw[e]at e1;cases e1;exact ag
  rw[ah hb];exact z
 ·obtain⟨more,z⟩:=I.base.tbls b ps q;exact⟨more,by rw[ah (λy=>n2 _ (by rw[<-y];exact z))];exact z⟩
 ·rw[ah (ne I.free)];exact I.free
 ·rw[ah (ne (I.freeC x c h))];exact I.freeC x c h
 ·obtain⟨p1,p2,p3,p4,p5⟩:=I.pin p hp;exact⟨p1,by rw[ah (ne p2)];exact p2,p3,p4,p5⟩
 have st:∀{b w},bo X.prog X.w H s.heap b w->bo X.prog X.w (upd H a (.frz o u)) s.heap b w:=λh=>h.stay (λ_ _ _ q=>q) (λd q=>by rw[ah (λz=>n3 _ (by rw[<-z];exact q))];exact q) λd xs q=>by rw[ah (λz=>n1 _ (by rw[<-z];exact q))];exact q
 by_cases hb:b=a
 ·subst hb;rw[ag]at q;cases q;exact⟨e,st ok⟩
 rw[ah hb]at q;exact st (I.hok b w q)
theorem Inv.thaw (I:Inv X pins U H s) (r:Rd H a u) (f:Fz u) (e:s.heap.get? a=some o) (J:Inv X pins σ' H' s') (h':H' a=some (.frz o u)):Inv X pins σ' (back H a H') s':=by
 obtain⟨v,hv⟩:=jx r;obtain⟨n1,n2,n3,n4⟩:=vi r f;have ne:∀{b},H' b=none->b≠a:=λh z=>by rw[z,h']at h;cases h
 have ok:=J.hok a _ h';refine⟨J.ok,J.os,J.bare,⟨J.base.keep,J.base.slot,λb ob q n hx=>?_,J.base.there,λb xs q=>?_,λb ob w q=>?_,λb ps q=>?_⟩,J.loc,J.cell,?_,λx c h=>?_,λp hp=>?_,λb w q=>?_,J.len⟩
 ·have:=J.base.free b ob q n hx;rw[bD (ne this)];exact this
 ·have:=J.base.tups b xs q;rw[bD (λz=>by rw[z,h']at this;cases this)];exact this
 ·by_cases hb:b=a
  ·subst hb;rw[fY];exact I.base.frzs b ob w q
  rw[bD hb];exact J.base.frzs b ob w q
 ·obtain⟨more,z⟩:=J.base.tbls b ps q;exact⟨more,by rw[bD (λy=>by rw[y,h']at z;cases z)];exact z⟩
 ·rw[bD (ne J.free)];exact J.free
 ·rw[bD (ne (J.freeC x c h))];exact J.freeC x c h
 ·obtain⟨p1,p2,p3,p4,p5⟩:=J.pin p hp;exact⟨p1,by rw[bD (ne p2)];exact p2,p3,p4,p5⟩
 have st:∀{b w},bo X.prog X.w H' s'.heap b w->bo X.prog X.w (back H a H') s'.heap b w:=λh=>h.stay (λ_ _ _ q=>q) (λd q=>by rw[bD (λz=>by rw[z,h']at q;cases q)];exact q) λd xs q=>by rw[bD (λz=>by rw[z,h']at q;cases q)];exact q
 by_cases hb:b=a
 ·subst hb;rw[fY]at q;rcases r with r|⟨o2,r⟩
  ·rw[r]at q;cases q;exact st ok.2
  obtain⟨e2,_⟩:=I.hok b _ r;rw[e]at e2;cases e2;rw[r]at q;cases q;exact⟨ok.1,st ok.2⟩
 rw[bD hb]at q;exact st (J.hok b w q)
noncomputable def u5 (D:Ends) (H:Hp) (a:Addr) (o:Obj) (u:HO):Ends where
 nx:=λσ' H'=>H' a=some (.frz o u)/\D.nx σ' (back H a H')
 bk:=λσ' H'=>H' a=some (.frz o u)/\D.bk σ' (back H a H')
 ct:=λσ' H'=>H' a=some (.frz o u)/\D.ct σ' (back H a H')
 rt:=λv H'=>H' a=some (.frz o u)/\D.rt v (back H a H')
def xc (t:TS):TS:=λD U H=>∃a u,Rd H a u/\Fz u/\∀o,t (u5 D H a o u) U (upd H a (.frz o u))
theorem v5 {st:Stmt} {t:TS} (h:PS X st t):PS X st (xc t):=by
 intro pins s U H D I q;obtain⟨a,u,r,f,q⟩:=q;obtain⟨v,hv⟩:=jx r
 obtain⟨o,e⟩:∃o,s.heap.get? a=some o:=by
  rcases r with r|⟨o,r⟩
  ·have:=(I.hok a _ r)
   cases u with
   | lst xs=>obtain⟨_,_,_,_,e⟩:=this;exact⟨_,e⟩
   | dK kvs=>obtain⟨_,_,_,_,o,_,_,e,_⟩:=this;exact⟨_,e⟩
   | dT kvs=>obtain⟨_,_,_,_,o,_,_,e,_⟩:=this;exact⟨_,e⟩
   | _=>exact f.elim
  exact⟨o,(I.hok a _ r).1⟩
 refine XM (h pins s U _ _ (I.freeze r f e) (q o)) (λfl s' z=>?_) λ_ _ z=>z
 cases fl with
 | next=>obtain⟨σ',H',J,h1,h2⟩:=z;exact⟨σ',_,I.thaw r f e J h1,h2⟩
 | brk=>obtain⟨σ',H',J,h1,h2⟩:=z;exact⟨σ',_,I.thaw r f e J h1,h2⟩
 | cont=>obtain⟨σ',H',J,h1,h2⟩:=z;exact⟨σ',_,I.thaw r f e J h1,h2⟩
 | ret w=>obtain⟨v,σ',H',J,rv,h1,h2⟩:=z;exact⟨v,σ',_,I.thaw r f e J h1,rv,h2⟩
def xb (t:TE):TE:=λU H Q=>∃a u,Rd H a u/\Fz u/\∀o,t U (upd H a (.frz o u)) λv H'=>H' a=some (.frz o u)/\Q v (back H a H')
theorem wc {ex:Expr} {t:TE} (h:PE X ex t):PE X ex (xb t):=by
 intro pins s U H Q I q;obtain⟨a,u,r,f,q⟩:=q
 obtain⟨o,e⟩:∃o,s.heap.get? a=some o:=by
  rcases r with r|⟨o,r⟩
  ·have:=(I.hok a _ r)
   cases u with
   | lst xs=>obtain⟨_,_,_,_,e⟩:=this;exact⟨_,e⟩
   | dK kvs=>obtain⟨_,_,_,_,o,_,_,e,_⟩:=this;exact⟨_,e⟩
   | dT kvs=>obtain⟨_,_,_,_,o,_,_,e,_⟩:=this;exact⟨_,e⟩
   | _=>exact f.elim
  exact⟨o,(I.hok a _ r).1⟩
 refine XM (h pins s U _ _ (I.freeze r f e) (q o)) (λv s' z=>?_) λ_ _ z=>z;obtain⟨v',H',J,rv,h1,h2⟩:=z;exact⟨v',_,I.thaw r f e J h1,rv,h2⟩
end
def Itd (a:Addr) (o:Obj) (kvs:List (Key × V)):It :=
 ⟨λi H=>H a=some (.frz o (.dK kvs))/\i<kvs.length,λi H x H'=>H'=H/\∃k v,kvs[i]?=some (k,v)/\x=kV k,λi H=>H a=some (.frz o (.dK kvs))/\kvs.length<=i⟩
theorem xV {P:Program} {w:World} {k:Key} (h:(au P w).is k u=true):aI (kV k) u:=by
 rcases aE (show dh k u=true from h) with⟨i,t,rfl,rfl⟩|⟨x,t,rfl,rfl⟩
 ·exact⟨t,rfl⟩
 exact⟨t,rfl⟩
theorem KV.len {κ:Type} {xs:List (κ × V)} {ys:List (κ × Value)} (r:KV xs ys):xs.length=ys.length:=Xi r
theorem KV.get {κ:Type}:∀{xs:List (κ × V)} {ys:List (κ × Value)} {i:Nat} {k:κ} {v:V},KV xs ys->xs[i]?=some (k,v)->∃u,ys[i]?=some (k,u)/\aI v u
 | _,_,_,_,_,.nil,e=>by simp at e
 | _,(k',u)::_,0,k,v,.cons r _,e=>by
  simp at e;subst e;obtain⟨r1,r2⟩:=r;have r1:k=k':=r1;subst r1;exact⟨u,rfl,r2⟩
 | _,_,i+1,k,v,.cons _ t,e=>by
  obtain⟨u,h1,h2⟩:=KV.get (i:=i) t (by simpa using e);exact⟨u,by simpa using h1,h2⟩
variable {kvs:List (Key × V)}
theorem eY {o:Obj} {es:Array DictEntry} {ep:Nat} (I:Inv X pins U H s) (h:H a=some (.frz o (.dK kvs))) (hd:o.data=.dict es ep) :
  ∃vs,KV kvs vs/\s.heap.DictAt (au X.prog X.w) a vs ep/\(a==sysModules)=false:=by
 obtain⟨e1,z,y,vs,rel,ob,es',ep',e2,c,d,r⟩:=I.hok a _ h;rw[e1]at e2;cases e2;rw[hd]at d;cases d;exact⟨vs,rel,⟨o,es,e1,c,hd,r⟩,y⟩
theorem pi {P:Program} {w:World} {K:PySem.W.Frag} {tg:Expr} (a it:Addr) (o:Obj) (kvs:List (Key × V)) (es:Array DictEntry) (ep:Nat) (hd:o.data=.dict es ep):Turn P w K tg (Itd a o kvs) [it] it (λi h=>h.IsKeyIter it a i kvs.length ep) where
 mem:=by simp
 obj:=λi h st b hb=>by
  have e:b=it:=by simpa using hb
  subst e;obtain⟨ob,e,c,d⟩:=st;exact⟨ob,e,λv z=>by rw[d]at z;cases z⟩
 keep:=λi h h' st k=>st.at λo e=>k it (by simp) o e
 item:=by
  intro X hP hw hK hc i pins s U H E I hf st hg;subst hP hw hK;obtain⟨hz,hi⟩:=hg;obtain⟨vs,rel,da,_⟩:=eY I hz hd;obtain⟨⟨k,v⟩,hx⟩:∃p,kvs[i]?=some p:=⟨kvs[i],by simp[hi]⟩;obtain⟨u,hu,ru⟩:=rel.get hx;obtain⟨f0,f1,f2,f3,f4,f5⟩:=hf it (by simp);have st0:=st;rw[rel.len]at st;refine wpAny_pyNext_dict_item st da hu λkey h' hkey st' sb=>?_;have I1:Inv X pins U H { s with heap:=h' }:=I.turned (t':=s.toks) (λb o hb e=>(sb.2 b hb).trans e) f0 f1 f3 f4 f5;rw[<-rel.len]at st';obtain⟨ob,e,c,d⟩:=id st';exact⟨key,rfl,oO (s:={ s with heap:=h' }) e c d (by decide) ⟨kV k,H,I1,xV hkey,⟨rfl,k,v,hx,rfl⟩,st',λb hb=>(hf b hb).1⟩⟩
 done:=by
  intro X hP hw hK hc i pins s U H E I hf st hg;subst hP hw hK;obtain⟨hz,hi⟩:=hg;obtain⟨vs,rel,da,_⟩:=eY I hz hd;obtain⟨f0,f1,f2,f3,f4,f5⟩:=hf it (by simp);rw[rel.len]at st;exact wpAny_pyNext_dict_end (I.ok.hd hc) st da (QU (by rw[<-rel.len];exact hi)) λh' eb=>⟨rfl,I.turned (t':=s.toks) (λb o hb e=>eb b o hb e) f0 f1 f3 f4 f5⟩
 self:=λ_ _ _ _ _ st h=>wpAny_pyIter_keyiter st h
def sM (tl:TE):TI:=λU H R=>tl U H λx H1=>∃a o kvs,x=.ref a/\H1 a=some (.frz o (.dK kvs))/\R (Itd a o kvs) H1
section
variable {X:Cx} {tg:Expr}
theorem rp {l:Expr} {tl:TE} (hl:PE X l tl):PI X tg l (sM tl):=by
 intro pins s U H R I h;refine thn (hl pins s U H _ I h) λv s1 ⟨x,H1,I1,r1,q1⟩=>?_;obtain⟨a,o,kvs,e,hz,q⟩:=q1;subst e;cases r1;obtain⟨e1,_,_,vs,rel,ob,es,ep,e2,c,d,r⟩:=I1.hok a _ hz;rw[e1]at e2;cases e2;obtain⟨vs,rel,da,hm⟩:=eY I1 hz d;refine wpAny_pyIter_dict hm da ?_;refine⟨s1.heap.objs.size,[s1.heap.objs.size],_,_,H1,rfl,I1.kept (t':=s1.toks) λb o e=>Qb _ e,pi a _ o kvs es ep d,⟨_,Qq _ rfl,rfl,by rw[rel.len];rfl⟩,λb hb=>?_,q⟩;have e:b=s1.heap.objs.size:=by simpa using hb
 subst e;exact I1.fpOk (Qg _) (I1.hok.fresh (Qg _))
end
theorem sQ {o:Obj} {g:TG} {tb:TS} {D:Ends} (Pv:Nat->St->Hp->Prop) (h0:Pv 0 U H) (hl:∀i U H,i<=kvs.length->Pv i U H->H a=some (.frz o (.dK kvs)))
  (hs:∀i k v U H,kvs[i]?=some (k,v)->Pv i U H->g (kV k) U H λσ2 H2=>tb { D with nx:=Pv (i+1),ct:=Pv (i+1),bk:=D.nx } σ2 H2) (hd:∀U H,Pv kvs.length U H->D.nx U H) :
  ∃W:Nat->Nat->St->Hp->Prop,(∃m,W 0 m U H)/\∀i m U H,W i m U H ->
   ((Itd a o kvs).stop i H/\D.nx U H)\/((Itd a o kvs).go i H/\∃N:St->Hp->Prop,(∀σ' H',N σ' H'->∃m',m'<m/\W (i+1) m' σ' H')/\∀x H',(Itd a o kvs).yld i H x H'->g x U H' λσ2 H2=>tb { D with nx:=N,ct:=N,bk:=D.nx } σ2 H2):=by
 refine⟨λi m U H=>m=kvs.length-i/\i<=kvs.length/\Pv i U H,⟨kvs.length,by simp,QP _,h0⟩,?_⟩;rintro i m U H ⟨rfl,hi,p⟩;have q:=hl i U H hi p;by_cases hlt:i<kvs.length
 ·refine .inr ⟨⟨q,hlt⟩,Pv (i+1),λσ' H' p'=>⟨kvs.length-(i+1),by exact om6 hlt,rfl,hlt,p'⟩,λx H' y=>?_⟩;obtain⟨e,k,v,hk,ex⟩:=y;subst e ex;exact hs i k v U _ hk p
 have e:i=kvs.length:=by exact om0 hi hlt
 subst e;exact .inl ⟨⟨q,Qg _⟩,hd U H p⟩
def qz (td ty tx:TE):TE:=λU H Q=>td U H λx H1=>∃a,x=.ref a/\IsD H1 a/\ty U H1 λy H2=>tx U H2 λz H3=>∃kvs k,H3 a=some (.dK kvs)/\y=kV k /\
 (∀v,aQ kvs k=some v->Q v H3)/\(aQ kvs k=none->kvs.length<sizeLine/\Q z (upd H3 a (.dK (bh kvs k z))))
section
variable {X:Cx} {o e f:Expr} {apos cpos:Pos} {td ty tx:TE}
theorem rD (ho:PE X o td) (he:PE X e ty) (hf:PE X f tx) (m:M2 X o "setdefault" apos e f cpos):PE X (.Call (.Attribute o "setdefault" apos) [e,f] [] cpos) (qz td ty tx):=by
 intro pins s U H Q I h;refine wpAny_Call_method m.base m.few m.line PySem.F.plainAttrs_dict PySem.F.slot_dict_setdefault PySem.F.type_dict_setdefault (thn (ho pins s U H _ I h) λu s1 ⟨x,H1,I1,rx,a,ex,d,q1⟩=>?_);subst ex;obtain rfl:u=Value.ref a:=rx;obtain⟨t1,t2,_⟩:=mU I1 d;refine⟨t1,t2,?_⟩;rw[m.trees]
 refine Calls.callWith_builtin rfl (Calls.evalArgs_plain (XR (thn (he pins s1 U H1 _ I1 q1) λiv s2 ⟨y,H2,I2,ry,q2⟩ =>
  XR (thn (hf pins s2 U H2 _ I2 q2) λfv s3 ⟨z,H3,I3,rz,kvs,k,ea,ey,q3,q4⟩=>Calls.spliced_nil ?_))))
 subst ey;obtain⟨zl,hd,vs,rel,dd⟩:=s_ I3.hok ea
 refine call_meetsIn PySem.F.slot_dict_setdefault dd.typeIs PySem.F.entry_dict_setdefault (PySem.F.args_dict_setdefault_3 _ _ _) (kt_meets_setdefault (au X.prog X.w) a (fB ry) hd fv)
  ⟨vs,dd,by rw[<-rel.length];exact zl,λv' hv'=>?_,λhn h' dd' hs=>?_⟩
 ·have r:=rel.val k;rw[hv']at r
  cases l:aQ kvs k with
  | none=>rw[l]at r;exact r.elim
  | some v=>rw[l]at r;exact⟨v,H3,I3.tok _,r,q3 v l⟩
 have r:=rel.val k;rw[hn]at r
 cases l:aQ kvs k with
 | some v=>rw[l]at r;exact r.elim
 | none =>
 obtain⟨zl',q5⟩:=q4 l;have he:∃q,h'.get? a=some q:=let ⟨q,_,_,hq,_⟩:=dd';⟨q,hq⟩
 have hl:(bh kvs k z).length<=sizeLine:=by
  rw[dY z l,Qn];exact zl'
 exact⟨z,_,fF I3 (by rw[ea];exact True.intro) hs he (m8 hl hd (rel.put k rz) dd'),rz,q5⟩
end
end L2
namespace Bf
section
variable {κ:Type} [DecidableEq κ]
def aX (w:List κ):List κ->List κ
 | []=>w
 | k::ks=>aX (if k∈w then w else w++[k]) ks
def bfs (nx:κ->List κ) (s:κ):Nat->List κ
 | 0=>[s]
 | n+1=>match (bfs nx s n)[n]? with
  | some h=>aX (bfs nx s n) (nx h)
  | none=>bfs nx s n
inductive Reach (nx:κ->List κ) (s:κ):κ->Prop
 | start:Reach nx s s
 | step {a b:κ}:Reach nx s a->b∈nx a->Reach nx s b
theorem cG:∀(ks w:List κ),w <+: aX w ks
 | [],w=>List.prefix_refl w
 | k::ks,w=>by
  unfold aX;refine List.IsPrefix.trans ?_ (cG ks _)
  split
  ·exact List.prefix_refl w
  exact List.prefix_append w [k]
theorem dN:∀(ks w:List κ) (x:κ),x∈aX w ks↔x∈w\/x∈ks
 | [],w,x=>by simp[aX]
 | k::ks,w,x=>by
  unfold aX;rw[dN ks]
  split
  ·rename_i h
   constructor
   ·rintro(q|q)
    ·exact .inl q
    exact .inr (Qo _ q)
   rintro(q|q)
   ·exact .inl q
   rcases Qh.mp q with e|q
   ·subst e;exact .inl h
   exact .inr q
  rw[Qw,QB,Qh,or_assoc]
theorem dM:∀(ks w:List κ),w.Nodup->(aX w ks).Nodup
 | [],w,h=>h
 | k::ks,w,h=>by
  unfold aX;refine dM ks _ ?_
  split
  ·exact h
  rename_i hk
  rw[XF];refine⟨h,by simp,λa ha b hb=>?_⟩;rw[QB]at hb;subst hb;intro e;subst e;exact hk ha
theorem iA (w ks ls:List κ):aX w (ks++ls)=aX (aX w ks) ls:=by
 induction ks generalizing w with
 | nil=>rfl
 | cons k ks ih=>exact ih _
theorem nA {w:List κ} {k:κ} (h:k∈w):aX w [k]=w:=by simp[aX,h]
theorem ny {w:List κ} {k:κ} (h:k∉w):aX w [k]=w++[k]:=by simp[aX,h]
variable {nx:κ->List κ} {s:κ}
variable {n i:Nat}
theorem dB {h:κ} (e:(bfs nx s n)[n]?=some h):bfs nx s (n+1)=aX (bfs nx s n) (nx h):=by
 show (match (bfs nx s n)[n]? with|some h=>aX (bfs nx s n) (nx h)|none=>bfs nx s n)=_;rw[e]
theorem d_ (e:(bfs nx s n)[n]?=none):bfs nx s (n+1)=bfs nx s n:=by
 show (match (bfs nx s n)[n]? with|some h=>aX (bfs nx s n) (nx h)|none=>bfs nx s n)=_;rw[e]
theorem lQ (n:Nat):bfs nx s n <+: bfs nx s (n+1):=by
 cases e:(bfs nx s n)[n]? with
 | none=>rw[d_ e];exact List.prefix_refl _
 | some h=>rw[dB e];exact cG _ _
theorem gs (n:Nat):∀m,bfs nx s n <+: bfs nx s (n+m)
 | 0=>List.prefix_refl _
 | m+1=>(gs n m).trans (lQ (n+m))
theorem gj {xs ys:List κ} (h:xs <+: ys) {x:κ} (e:xs[i]?=some x):ys[i]?=some x:=by
 obtain⟨t,rfl⟩:=h;rw[QM (Qe.mp e).1];exact e
theorem gH {xs ys:List κ} (h:xs <+: ys) {x:κ} (hi:i<xs.length) (e:ys[i]?=some x):xs[i]?=some x:=by
 obtain⟨t,rfl⟩:=h;rw[QM hi]at e;exact e
theorem cU:∀n,(bfs nx s n).Nodup
 | 0=>by simp[bfs]
 | n+1=>by
  cases e:(bfs nx s n)[n]? with
  | none=>rw[d_ e];exact cU n
  | some h=>rw[dB e];exact dM _ _ (cU n)
theorem cT:∀n x,x∈bfs nx s n->Reach nx s x
 | 0,x,h=>by
  have:x=s:=by simpa[bfs] using h
  subst this;exact .start
 | n+1,x,hx=>by
  cases e:(bfs nx s n)[n]? with
  | none=>rw[d_ e]at hx;exact cT n x hx
  | some h =>
  rw[dB e]at hx;rcases(dN _ _ _).mp hx with q|q
  ·exact cT n x q
  exact .step (cT n h (Qk e)) q
theorem lP (n:Nat):(bfs nx s n)[0]?=some s:=gj (by have:=gs (nx:=nx) (s:=s) 0 n;rwa [Nat.zero_add]at this) rfl
theorem qi (n:Nat):s∈bfs nx s n:=Qk (lP n)
theorem nk {i:Nat} {h:κ} (hi:i<n) (e:(bfs nx s n)[i]?=some h):∀k∈nx h,k∈bfs nx s n:=by
 have h1:bfs nx s i <+: bfs nx s n:=by
  have:=gs (nx:=nx) (s:=s) i (n-i);rwa [Nat.add_sub_cancel' (Nat.le_of_lt hi)]at this
 have h2:bfs nx s (i+1) <+: bfs nx s n:=by
  have:=gs (nx:=nx) (s:=s) (i+1) (n-(i+1));rwa [Nat.add_sub_cancel' hi]at this
 intro k hk
 cases q:(bfs nx s i)[i]? with
 | some h' =>
  have:some h'=some h:=(gj h1 q).symm.trans e;cases this;refine h2.subset ?_;rw[dB q];exact(dN _ _ _).mpr (.inr hk)
 | none =>
 -- then nothing is added any more
 exfalso
 have stay:∀m,bfs nx s (i+m)=bfs nx s i:=by
  intro m
  induction m with
  | zero=>rfl
  | succ m ih =>
  have:(bfs nx s (i+m))[i+m]?=none:=by
   rw[ih];exact QU (QG (XJ.mp q) (QI i m))
  exact(d_ this).trans ih
 have:=stay (n-i);rw[Nat.add_sub_cancel' (Nat.le_of_lt hi)]at this;rw[this,q]at e;cases e
theorem uQ (hn:(bfs nx s n).length<=n) (x:κ):x∈bfs nx s n↔Reach nx s x:=by
 refine⟨cT n x,λr=>?_⟩
 induction r with
 | start=>exact qi n
 | step r hb ih =>
 obtain⟨i,hi,e⟩:=List.mem_iff_getElem.mp ih;exact nk (i:=i) (by omega) (by rw[Qc hi,e]) _ hb
theorem e_:∀(ks w:List κ) (j:Nat) (x:κ),w.length<=j->(aX w ks)[j]?=some x->x∈ks
 | [],w,j,x,hj,e=>by
  have:w[j]?=some x:=e;rw[QU hj]at this;cases this
 | k::ks,w,j,x,hj,e=>by
  unfold aX at e
  split at e
  ·exact Qo _ (e_ ks w j x hj e)
  by_cases c:j=w.length
  ·subst c;have:=gH (cG ks (w++[k])) (i:=w.length) (by simp) e;rw[QQ (Qg _)]at this;simp at this;exact this▸Xl
  exact Qo _ (e_ ks (w++[k]) j x (by simp;omega) e)
theorem ie:∀(n j:Nat) (x:κ),0<j->(bfs nx s n)[j]?=some x->∃i h,i<j/\i<n/\(bfs nx s n)[i]?=some h/\x∈nx h
 | 0,j,x,hj,e=>by
  have:([s]:List κ)[j]?=some x:=e;rw[QU (by simp;omega)]at this;cases this
 | n+1,j,x,hj,e=>by
  cases q:(bfs nx s n)[n]? with
  | none =>
   rw[d_ q]at e ⊢;obtain⟨i,h,h1,h2,h3,h4⟩:=ie n j x hj e;exact⟨i,h,h1,by omega,h3,h4⟩
  | some h =>
  rw[dB q]at e ⊢;by_cases c:j<(bfs nx s n).length
  ·have e':=gH (cG (nx h) (bfs nx s n)) c e;obtain⟨i,h',h1,h2,h3,h4⟩:=ie n j x hj e';exact⟨i,h',h1,by omega,gj (cG _ _) h3,h4⟩
  have hn:n<(bfs nx s n).length:=(Qe.mp q).1;exact⟨n,h,by omega,by omega,gj (cG _ _) q,e_ _ _ j x (by omega) e⟩
theorem pigeon:∀(xs ys:List κ),xs.Nodup->(∀x∈xs,x∈ys)->xs.length<=ys.length
 | [],_,_,_=>QP _
 | x::xs,ys,nd,h=>by
  rw[QN]at nd;have hx:x∈ys:=h x Xl;have:=pigeon xs (ys.erase x) nd.2 λy hy=>(List.mem_erase_of_ne (λz:y=x=>nd.1 (by rw[<-z];exact hy))).mpr (h y (Qo _ hy));rw[XO hx]at this;have:0<ys.length:=List.length_pos_of_mem hx;simp only[Xp];omega
end
end Bf
namespace L2
open PySem PySem.Spec PyProof.Rows
section
variable {X:Cx}
def vZ:V->List V->Hp->VK->Prop:=λx vs H Q=>∃(l:Addr) (xs:List Str) (y:Str) (j:Nat),x=.ref l/\vs=[.str y]/\H l=some (.lst (xs.map V.str))/\xs[j]?=some y/\(∀m,m<j->xs[m]?≠some y)/\xs.length<=100000/\Q (.int j) H
theorem fk:MtR X "list.index" vZ:=by
 intro pins s U H x vs v us Q I rx rv h;obtain⟨l,xs,y,j,rfl,rfl,hH,hj,hno,hz,q⟩:=h;cases rx;obtain⟨u,rfl,t,rfl⟩:=c9 rv;obtain⟨z,its,n,r,hl,e⟩:=I.lstM hH;have sa:=eW r;have hlen:its.length=xs.length:=by rw[<-hl,Qd]
 have hjl:j<xs.length:=(Qe.mp hj).1
 have at':∀m (hm:m<its.toArray.size),isStrOf y its.toArray[m]=(xs[m]'(by rw[Qi]at hm;exact rN hlen hm)==y):=λm hm=>by
  rw[Qi]at hm;obtain⟨u,hu,ru⟩:=r.get (i:=m) (show (xs.map V.str)[m]?=some (.str (xs[m]'(by exact rN hlen hm))) from by rw[Qs,Qc (by exact rN hlen hm)];rfl);obtain⟨tu,eu⟩:=ru;subst eu
  have e2:its.toArray[m]=.str (xs[m]'(by exact rN hlen hm)) tu:=by
   have:=(Qe.mp hu).2;simpa using this
  rw[e2];rfl
 refine call_meets F.slot_list_index ⟨_,e,rfl⟩ F.entry_list_index (F.args_list_index_2 _ _) (MeetsSeq.list_index l its.toArray n (.str y t) (isStrOf y) (λv hv=>eq_isStrOf y t sa v (by simpa using hv)) j (by rw[Qi];exact rO hlen hjl) (by omega) ?_ (λm hm hmj=>?_)) ⟨e,?_⟩
 ·rw[at' j (by rw[Qi];exact rO hlen hjl)];have:=(Qe.mp hj).2;rw[this];simp
 ·rw[at' m hm];rw[Qi]at hm;have h1:=hno m hmj;rw[Qc (by exact rN hlen hm)]at h1;simpa using h1
 exact⟨.int j,H,I.tok _,⟨_,rfl⟩,q⟩
end
section
variable {X:Cx}
end
section
variable {X:Cx}
def oh (T:Addr):R2:=λx y H Q=>x=.ref T/\((y=.str "0" /\ Q (.str "1") H)\/(y=.str "1" /\ Q (.str "0") H))
theorem uw {T:Addr} (hT:iE X.K T [("0", .flat (.str "1")),("1", .flat (.str "0"))]):IxR X (oh T):=by
 intro value slice pins s U H x y v u Q I rx ry h hs;obtain⟨e1,h⟩:=h;subst e1;cases rx;have here:KTD.Here X.base s.heap T [("0", .flat (.str "1")),("1", .flat (.str "0"))]:=⟨KTD.text_of_look (get:=λa=>X.K.lookup a) (λa o e=>I.mod.kin a o e) hT,I.bk⟩;rcases h with⟨e,q⟩|⟨e,q⟩
 ·subst e;obtain⟨t,e⟩:=ry;subst e;refine KTD.item_textA here (by rfl) (by decide +kernel) ?_ hs;have e:decide (("0" : Str) = "0")=true:=by decide +kernel
  simp only[KTD.EachL,e,if_true];exact λt=>⟨.str "1", H,I.tok _,⟨_,rfl⟩,q⟩
 subst e;obtain⟨t,e⟩:=ry;subst e;refine KTD.item_textA here (by rfl) (by decide +kernel) ?_ hs;have e:decide (("1" : Str) = "0")=false:=by decide +kernel
 simp only[KTD.EachL,e,QE,Xs];exact λ_ t=>⟨.str "0", H,I.tok _,⟨_,rfl⟩,q⟩
end
end L2
set_option maxHeartbeats 1000000
namespace Ks
open PySem PyProof.Rows PySem.W
def ev {α:Type} (c:Nat->Nat->Bool):KasT α->α
 | .ret a=>a
 | .ask i j k=>ev c (k (c i j))
theorem eG {α β:Type} (c:Nat->Nat->Bool) (f:α->KasT β):∀t:KasT α,ev c (t.bind f)=ev c (f (ev c t))
 | .ret _=>rfl
 | .ask i j k=>eG c f (k (c i j))
def Low {α:Type} (N:Nat):KasT α->Prop
 | .ret _=>True
 | .ask i j k=>i<N/\j<N/\∀b,Low N (k b)
theorem wp_of {α:Type} {N:Nat} {c:Nat->Nat->Bool} {cmp:Nat->Nat->(Bool->Shared->Prop)->Shared->Prop} {G:α->Shared->Prop} {s:Shared} (hc:∀i j,i<N->j<N->∀C:Bool->Shared->Prop,C (c i j) s->cmp i j C s) :
  ∀t:KasT α,Low N t->G (ev c t) s->t.kasWp cmp G s
 | .ret _,_,g=>g
 | .ask i j k,l,g=>hc i j l.1 l.2.1 _ (wp_of hc (k (c i j)) (l.2.2 _) g)
variable {N:Nat}
theorem Low.bind {α β:Type} {f:α->KasT β}:∀{t:KasT α},Low N t->(∀a,Low N (f a))->Low N (t.bind f)
 | .ret a,_,h=>h a
 | .ask i j k,l,h=>⟨l.1,l.2.1,λb=>Low.bind (l.2.2 b) h⟩
def Out {α:Type} (P:α->Prop):KasT α->Prop
 | .ret a=>P a
 | .ask _ _ k=>∀b,Out P (k b)
theorem Low.bindO {α β:Type} {P:α->Prop} {f:α->KasT β}:∀{t:KasT α},Low N t->Out P t->(∀a,P a->Low N (f a))->Low N (t.bind f)
 | .ret a,_,o,h=>h a o
 | .ask i j k,l,o,h=>⟨l.1,l.2.1,λb=>Low.bindO (l.2.2 b) (o b) h⟩
def Lt (N:Nat) (p:Array Nat):Prop:=∀x∈p.toList,x<N
theorem Lt.get {p:Array Nat} (h:Lt N p) (h0:0<N) (i:Nat):p.getD i 0<N:=by
 by_cases c:i<p.size
 ·have e:p.getD i 0=p[i]:=by simp[Array.getD,c]
  rw[e];exact h _ (Array.getElem_mem_toList c)
 have e:p.getD i 0=0:=by simp[Array.getD,c]
 rw[e];exact h0
theorem Lt.perm {p q:Array Nat} (h:Lt N p) (e:q.Perm p):Lt N q:=λx hx=>h x ((Array.perm_iff_toList_perm.mp e).mem_iff.mp hx)
section
variable {N:Nat} (h0:0<N)
include h0
theorem jE {p:Array Nat} (h:Lt N p):∀f n,Low N (kas_asc p f n)
 | 0,_=>trivial
 | f+1,n=>⟨h.get h0 _,h.get h0 _,λb=>by
   cases b with
   | true=>exact trivial
   | false=>exact jE h f (n+1)⟩
theorem fq:∀f (p:Array Nat) n q,Lt N p->Low N (kas_desc f p n q)/\Out (λr=>Lt N r.1) (kas_desc f p n q)
 | 0,p,n,q,h=>⟨trivial,h⟩
 | f+1,p,n,q,h=>by
  have a1:=fq f p (n+1) 0 h;have a2:=fq f _ (n+1) 0 (h.perm (mirror_perm p (n-(q+1)) n ((n-(n-(q+1))) / 2)));have a3:=fq f p (n+1) (q+1) h
  have hz:∀b,Low N (if b=true then (if q>0 then kas_desc f (kas_rev p (n-(q+1)) n) (n+1) 0 else kas_desc f p (n+1) 0) else KasT.ask (p.getD (n-1) 0) (p.getD n 0) λd=>if d=true then .ret (p,n,q) else kas_desc f p (n+1) (q+1)) /\
    Out (λr=>Lt N r.1) (if b=true then (if q>0 then kas_desc f (kas_rev p (n-(q+1)) n) (n+1) 0 else kas_desc f p (n+1) 0) else KasT.ask (p.getD (n-1) 0) (p.getD n 0) λd=>if d=true then .ret (p,n,q) else kas_desc f p (n+1) (q+1)):=λb=>by
   cases b with
   | true =>
    rw[Qt rfl];by_cases c:q>0
    ·rw[Qt c];exact a2
    rw[Qr c];exact a1
   | false =>
   rw[Qr Qm];refine⟨⟨h.get h0 _,h.get h0 _,λd=>?_⟩,λd=>?_⟩
   ·cases d with
    | true=>exact trivial
    | false=>exact a3.1
   cases d with
   | true=>exact h
   | false=>exact a3.2
  exact⟨⟨h.get h0 _,h.get h0 _,λb=>(hz b).1⟩,λb=>(hz b).2⟩
theorem iX {p:Array Nat} (h:Lt N p) (n nrem:Nat):Low N (kas_tail3 n nrem p)/\Out (λr=>Lt N r.2) (kas_tail3 n nrem p):=by
 have h':Lt N (kas_rev p 0 n):=h.perm (mirror_perm ..)
 have out:∀{t:KasT Nat},Out (λr:Nat × Array Nat=>Lt N r.2) (t.bind λm=>.ret (m,kas_rev p 0 n)):=by
  intro t
  induction t with
  | ret a=>exact h'
  | ask i j k ih=>exact λb=>ih b
 exact⟨(jE h0 h' _ _).bind λ_=>trivial,out⟩
theorem Out.bind {α β:Type} {P:α->Prop} {P':β->Prop} {f:α->KasT β}:∀{t:KasT α},Out P t->(∀a,P a->Out P' (f a))->Out P' (t.bind f)
 | .ret a,o,h=>h a o
 | .ask i j k,o,h=>λb=>Out.bind (o b) h
theorem lc {p:Array Nat} (h:Lt N p) (n nrem:Nat):Low N (kas_descPart n nrem p)/\Out (λr=>Lt N r.2) (kas_descPart n nrem p):=by
 have d:=fq h0 (nrem-(n+1)) p (n+1) 0 h
 have z:∀r:Array Nat × Nat × Nat,Lt N r.1->Low N (if r.2.2>0 then kas_tail3 r.2.1 nrem (kas_rev r.1 (r.2.1-(r.2.2+1)) r.2.1) else kas_tail3 r.2.1 nrem r.1)/\Out (λr=>Lt N r.2) (if r.2.2>0 then kas_tail3 r.2.1 nrem (kas_rev r.1 (r.2.1-(r.2.2+1)) r.2.1) else kas_tail3 r.2.1 nrem r.1):=λr hr=>by
  split
  ·exact iX h0 (hr.perm (mirror_perm ..)) _ _
  exact iX h0 hr _ _
 exact⟨d.1.bindO d.2 λr hr=>(z r hr).1,Out.bind h0 d.2 λr hr=>(z r hr).2⟩
theorem pN {p:Array Nat} (h:Lt N p) (nrem:Nat):Low N (kas_count nrem p)/\Out (λr=>Lt N r.2) (kas_count nrem p):=by
 have z:∀n:Nat,Low N (if (n==nrem)=true then KasT.ret (n,p) else if n>1 then .ask (p.getD 0 0) (p.getD (n-1) 0) λc=>if c=true then .ret (n,p) else kas_descPart n nrem (kas_rev p 0 n) else kas_descPart n nrem p) /\
   Out (λr=>Lt N r.2) (if (n==nrem)=true then KasT.ret (n,p) else if n>1 then .ask (p.getD 0 0) (p.getD (n-1) 0) λc=>if c=true then .ret (n,p) else kas_descPart n nrem (kas_rev p 0 n) else kas_descPart n nrem p):=λn=>by
  split
  ·exact⟨trivial,h⟩
  split
  ·have q:=lc h0 (h.perm (mirror_perm p 0 n ((n-0) / 2))) n nrem;refine⟨⟨h.get h0 _,h.get h0 _,λb=>?_⟩,λb=>?_⟩
   ·cases b with
    | true=>exact trivial
    | false=>exact q.1
   cases b with
   | true=>exact h
   | false=>exact q.2
  exact lc h0 h n nrem
 have all:∀{t:KasT Nat},Out (λ_=>True) t:=by
  intro t
  induction t with
  | ret a=>exact trivial
  | ask i j k ih=>exact λb=>ih b
 exact⟨(jE h0 h _ _).bind λn=>(z n).1,Out.bind h0 all λn _=>(z n).2⟩
theorem fT {p:Array Nat} (h:Lt N p) (k:Nat):∀f l r,Low N (kas_place p k f l r)
 | 0,_,_=>trivial
 | f+1,l,r=>by
  unfold kas_place
  split
  ·exact trivial
  refine⟨h.get h0 _,h.get h0 _,λb=>?_⟩
  cases b with
  | true=>exact fT h k f _ _
  | false=>exact fT h k f _ _
theorem oG:∀f (p:Array Nat) k,Lt N p->Low N (kas_bin f p k)
 | 0,_,_,_=>trivial
 | f+1,p,k,h=>(fT h0 h k k 0 k).bind λl=>oG f _ _ (h.perm (bubble_perm ..))
theorem low_sort:Low N (kas_sort N):=by
 have h:Lt N (List.range N).toArray:=λx hx=>by simpa using hx
 have q:=pN h0 h N;refine q.1.bindO q.2 λr hr=>?_
 split
 ·exact oG h0 _ _ _ hr
 exact trivial
end
section
variable {O:KeyOrd} {K:Nat->O.α}
def at_ (K:Nat->O.α) (p:Array Nat) (i:Nat):O.α:=K (p.getD i 0)
def Up (K:Nat->O.α) (p:Array Nat) (m:Nat):Prop:=∀i j,i<=j->j<m->O.kle (at_ K p i) (at_ K p j)
def Dn (K:Nat->O.α) (p:Array Nat) (m:Nat):Prop:=∀i j,i<=j->j<m->O.kle (at_ K p j) (at_ K p i)
abbrev cb (K:Nat->O.α) (i j:Nat):Bool:=O.blt (K i) (K j)
theorem Up.one (p:Array Nat):Up K p 1:=λi j h1 h2=>by
 obtain rfl:j=0:=by omega
 obtain rfl:i=0:=by omega
 exact O.irrefl _
variable {n i j N:Nat}
theorem Up.more {p:Array Nat} (u:Up K p n) (h1:1<=n) (h:O.kle (at_ K p (n-1)) (at_ K p n)):Up K p (n+1):=λi j h2 h3=>by
 by_cases e:j=n
 ·subst e;by_cases e2:i=j
  ·subst e2;exact O.irrefl _
  exact KeyOrd.kle_trans (u i (j-1) (by omega) (by omega)) h
 exact u i j h2 (by omega)
theorem Dn.more {p:Array Nat} (u:Dn K p n) (h1:1<=n) (h:O.kle (at_ K p n) (at_ K p (n-1))):Dn K p (n+1):=λi j h2 h3=>by
 by_cases e:j=n
 ·subst e;by_cases e2:i=j
  ·subst e2;exact O.irrefl _
  exact KeyOrd.kle_trans h (u i (j-1) (by omega) (by omega))
 exact u i j h2 (by omega)
theorem wQ {p:Array Nat}:∀f n,1<=n->Up K p n->Up K p (ev (cb K) (kas_asc p f n))/\n<=ev (cb K) (kas_asc p f n)/\ev (cb K) (kas_asc p f n)<=n+f /\
  (ev (cb K) (kas_asc p f n)<n+f->O.klt (at_ K p (ev (cb K) (kas_asc p f n))) (at_ K p (ev (cb K) (kas_asc p f n)-1)))
 | 0,n,_,u=>⟨u,Qg _,Qg _,λh=>absurd h (XV _)⟩
 | f+1,n,h1,u=>by
  have st:ev (cb K) (kas_asc p (f+1) n)=ev (cb K) (if cb K (p.getD n 0) (p.getD (n-1) 0)=true then KasT.ret n else kas_asc p f (n+1)):=rfl;rw[st];clear st
  cases c:cb K (p.getD n 0) (p.getD (n-1) 0) with
  | true=>exact⟨u,Qg _,by show n<=n+(f+1);omega,λ_=>c⟩
  | false =>
  rw[Qr Qm];obtain⟨a1,a2,a3,a4⟩:=wQ f (n+1) (by omega) (u.more h1 c);exact⟨a1,by omega,by omega,λh=>a4 (by omega)⟩
theorem oP (p:Array Nat) (hj:j<=p.size) (k:Nat):(kas_rev p i j).getD k 0=if (i<=k/\k<i+(j-i) / 2)\/(j-(j-i) / 2<=k/\k<j) then p.getD (i+j-1-k) 0 else p.getD k 0:=by
 have q:=getElem?_mirror (xs:=p) (i:=i) (j:=j) hj ((j-i) / 2) (by omega) k;unfold kas_rev;rw[Xh,q]
 split
 ·rw[Xh]
 rw[Xh]
theorem og {p:Array Nat} (hj:n<=p.size) {k:Nat} (hk:k<n):at_ K (kas_rev p 0 n) k=at_ K p (n-1-k):=by
 unfold at_;rw[oP p hj]
 split
 ·rw[Nat.zero_add]
 rename_i h
 have:n-1-k=k:=by omega
 rw[this]
theorem gF {p:Array Nat} {a n:Nat} (hj:n<=p.size) (h:∀i,a<=i->i<n->at_ K p i=at_ K p (n-1)) (k:Nat):at_ K (kas_rev p a n) k=at_ K p k:=by
 unfold at_;rw[oP p hj]
 split
 ·rename_i c
  show at_ K p _=at_ K p _;rw[h (a+n-1-k) (by omega) (by omega),h k (by omega) (by omega)]
 rfl
theorem Dn.up {p:Array Nat} (hj:n<=p.size) (d:Dn K p n):Up K (kas_rev p 0 n) n:=λi j h1 h2=>by
 rw[og hj (by omega),og hj h2];exact d _ _ (by omega) (by omega)
theorem Dn.congr {p q:Array Nat} (d:Dn K p n) (h:∀k,at_ K q k=at_ K p k):Dn K q n:=λi j h1 h2=>by rw[h,h];exact d i j h1 h2
def Seg (K:Nat->O.α) (p:Array Nat) (n q:Nat):Prop:=∀i,n-(q+1)<=i->i<n->at_ K p i=at_ K p (n-1)
theorem Seg.zero (p:Array Nat) (n:Nat):Seg K p n 0:=λi h1 h2=>by rw[show i=n-1 by omega]
theorem oU:∀f (p:Array Nat) n q,1<=n->Dn K p n->q+1<=n->Seg K p n q->n+f<=p.size ->
  (ev (cb K) (kas_desc f p n q)).1.Perm p/\Dn K (ev (cb K) (kas_desc f p n q)).1 (ev (cb K) (kas_desc f p n q)).2.1/\n<=(ev (cb K) (kas_desc f p n q)).2.1/\(ev (cb K) (kas_desc f p n q)).2.1<=n+f/\(ev (cb K) (kas_desc f p n q)).2.2+1<=(ev (cb K) (kas_desc f p n q)).2.1/\Seg K (ev (cb K) (kas_desc f p n q)).1 (ev (cb K) (kas_desc f p n q)).2.1 (ev (cb K) (kas_desc f p n q)).2.2
 | 0,p,n,q,h1,d,hq,sg,hz=>⟨.refl _,d,Qg _,Qg _,hq,sg⟩
 | f+1,p,n,q,h1,d,hq,sg,hz=>by
  have st:ev (cb K) (kas_desc (f+1) p n q)=ev (cb K) (if cb K (p.getD n 0) (p.getD (n-1) 0)=true then (if q>0 then kas_desc f (kas_rev p (n-(q+1)) n) (n+1) 0 else kas_desc f p (n+1) 0) else .ask (p.getD (n-1) 0) (p.getD n 0) λd=>if d=true then .ret (p,n,q) else kas_desc f p (n+1) (q+1)):=by
   conv=>lhs;unfold kas_desc
   rfl
  rw[st];clear st
  cases c:cb K (p.getD n 0) (p.getD (n-1) 0) with
  | true =>
   rw[Qt rfl];have k1:O.kle (at_ K p n) (at_ K p (n-1)):=KeyOrd.klt_asymm c;by_cases q0:q>0
   ·rw[Qt q0];have e:=gF (K:=K) (p:=p) (a:=n-(q+1)) (n:=n) (by omega) sg;obtain⟨a1,a2,a3,a4,a5,a6⟩:=oU f (kas_rev p (n-(q+1)) n) (n+1) 0 (by omega) ((d.more h1 k1).congr e) (by omega) (.zero _ _) (by rw[kas_rev,mirror_size];omega);exact⟨a1.trans (mirror_perm ..),a2,by omega,by omega,a5,a6⟩
   rw[Qr q0];obtain⟨a1,a2,a3,a4,a5,a6⟩:=oU f p (n+1) 0 (by omega) (d.more h1 k1) (by omega) (.zero _ _) (by omega);exact⟨a1,a2,by omega,by omega,a5,a6⟩
  | false =>
  rw[Qr Qm];have st:ev (cb K) (KasT.ask (p.getD (n-1) 0) (p.getD n 0) λd=>if d=true then .ret (p,n,q) else kas_desc f p (n+1) (q+1))=ev (cb K) (if cb K (p.getD (n-1) 0) (p.getD n 0)=true then .ret (p,n,q) else kas_desc f p (n+1) (q+1)):=rfl;rw[st];clear st
  cases c2:cb K (p.getD (n-1) 0) (p.getD n 0) with
  | true =>
   rw[Qt rfl];exact⟨.refl _,d,Qg _,QI _ _,hq,sg⟩
  | false =>
  rw[Qr Qm];have e:at_ K p n=at_ K p (n-1):=O.total _ _ c c2
  obtain⟨a1,a2,a3,a4,a5,a6⟩:=oU f p (n+1) (q+1) (by omega) (d.more h1 (by rw[e];exact O.irrefl _)) (by omega) (λi g1 g2=>by
   rw[Nat.add_sub_cancel];by_cases z:i=n
   ·rw[z]
   rw[e];exact sg i (by omega) (by omega)) (by omega)
  exact⟨a1,a2,by omega,by omega,a5,a6⟩
theorem qu {p:Array Nat} {n nrem:Nat} (h1:1<=n) (hn:n<=nrem) (hz:nrem<=p.size) (d:Dn K p n) :
  (ev (cb K) (kas_tail3 n nrem p)).2.Perm p/\Up K (ev (cb K) (kas_tail3 n nrem p)).2 (ev (cb K) (kas_tail3 n nrem p)).1/\1<=(ev (cb K) (kas_tail3 n nrem p)).1/\(ev (cb K) (kas_tail3 n nrem p)).1<=nrem:=by
 unfold kas_tail3;rw[eG];obtain⟨a1,a2,a3,_⟩:=wQ (K:=K) (nrem-n) n h1 (d.up (by omega));exact⟨mirror_perm ..,a1,by show 1<=ev _ _;omega,by show ev _ _<=nrem;omega⟩
theorem vn {p:Array Nat} {n nrem:Nat} (h1:1<=n) (hn:n+1<=nrem) (hz:nrem<=p.size) (d:Dn K p (n+1)) :
  (ev (cb K) (kas_descPart n nrem p)).2.Perm p/\Up K (ev (cb K) (kas_descPart n nrem p)).2 (ev (cb K) (kas_descPart n nrem p)).1/\1<=(ev (cb K) (kas_descPart n nrem p)).1/\(ev (cb K) (kas_descPart n nrem p)).1<=nrem:=by
 unfold kas_descPart;rw[eG];obtain⟨a1,a2,a3,a4,a5,a6⟩:=oU (K:=K) (nrem-(n+1)) p (n+1) 0 (by omega) d (by omega) (.zero _ _) (by omega);have sz:=a1.size_eq;generalize ev (cb K) (kas_desc (nrem-(n+1)) p (n+1) 0)=r at *;obtain⟨p',m,q⟩:=r;dsimp only at *
 split
 ·have e:=gF (K:=K) (p:=p') (a:=m-(q+1)) (n:=m) (by omega) a6;obtain⟨b1,b2,b3,b4⟩:=qu (K:=K) (p:=kas_rev p' (m-(q+1)) m) (n:=m) (nrem:=nrem) (by omega) (by omega) (by rw[kas_rev,mirror_size];omega) (a2.congr e);exact⟨b1.trans ((mirror_perm ..).trans a1),b2,b3,b4⟩
 obtain⟨b1,b2,b3,b4⟩:=qu (K:=K) (p:=p') (n:=m) (nrem:=nrem) (by omega) (by omega) (by omega) a2;exact⟨b1.trans a1,b2,b3,b4⟩
theorem wN {p:Array Nat} {nrem:Nat} (h1:1<=nrem) (hz:nrem<=p.size) :
  (ev (cb K) (kas_count nrem p)).2.Perm p/\Up K (ev (cb K) (kas_count nrem p)).2 (ev (cb K) (kas_count nrem p)).1/\1<=(ev (cb K) (kas_count nrem p)).1/\(ev (cb K) (kas_count nrem p)).1<=nrem:=by
 unfold kas_count;rw[eG];obtain⟨a1,a2,a3,a4⟩:=wQ (K:=K) (p:=p) (nrem-1) 1 (Qg _) (.one p);generalize ev (cb K) (kas_asc p (nrem-1) 1)=n at *
 split
 ·exact⟨.refl _,a1,a2,by show n<=nrem;omega⟩
 rename_i c
 have c:n≠nrem:=by simpa using c
 have lt:=a4 (by omega)
 split
 ·have st:ev (cb K) (KasT.ask (p.getD 0 0) (p.getD (n-1) 0) λc=>if c=true then .ret (n,p) else kas_descPart n nrem (kas_rev p 0 n))=ev (cb K) (if cb K (p.getD 0 0) (p.getD (n-1) 0)=true then .ret (n,p) else kas_descPart n nrem (kas_rev p 0 n)):=rfl;rw[st];clear st
  cases c2:cb K (p.getD 0 0) (p.getD (n-1) 0) with
  | true=>rw[Qt rfl];exact⟨.refl _,a1,a2,by show n<=nrem;omega⟩
  | false =>
  rw[Qr Qm]
  have eq0:∀i,i<n->at_ K p i=at_ K p (n-1):=λi hi=>by
   have k1:O.kle (at_ K p i) (at_ K p (n-1)):=a1 i (n-1) (by omega) (by omega);have k2:O.kle (at_ K p (n-1)) (at_ K p 0):=c2;exact KeyOrd.kle_antisymm k1 (KeyOrd.kle_trans k2 (a1 0 i (by omega) hi))
  have e:=gF (K:=K) (p:=p) (a:=0) (n:=n) (by omega) (λi _ h=>eq0 i h);have d:Dn K (kas_rev p 0 n) (n+1):=Dn.congr (p:=p) (Dn.more (λi j g1 g2=>by rw[eq0 i (by omega),eq0 j g2];exact O.irrefl _) a2 (KeyOrd.klt_asymm lt)) e;obtain⟨b1,b2,b3,b4⟩:=vn (K:=K) (p:=kas_rev p 0 n) (n:=n) (nrem:=nrem) a2 (by omega) (by rw[kas_rev,mirror_size];omega) d;exact⟨b1.trans (mirror_perm ..),b2,b3,b4⟩
 obtain rfl:n=1:=by omega
 exact vn (K:=K) (Qg _) (by omega) hz (Dn.more (λi j g1 g2=>by rw[show i=j by omega];exact O.irrefl _) (Qg _) (KeyOrd.klt_asymm lt))
theorem mD {p:Array Nat} {k:Nat} (u:Up K p k):∀f l r,l<=r->r<=k->r-l<=f->(∀i,i<l->O.kle (at_ K p i) (at_ K p k))->(∀i,r<=i->i<k->O.klt (at_ K p k) (at_ K p i)) ->
  ev (cb K) (kas_place p k f l r)<=k/\(∀i,i<ev (cb K) (kas_place p k f l r)->O.kle (at_ K p i) (at_ K p k))/\∀i,ev (cb K) (kas_place p k f l r)<=i->i<k->O.klt (at_ K p k) (at_ K p i)
 | 0,l,r,h1,h2,h3,b1,b2=>by
  obtain rfl:l=r:=by omega
  exact⟨h2,b1,b2⟩
 | f+1,l,r,h1,h2,h3,b1,b2=>by
  unfold kas_place;by_cases c:l>=r
  ·rw[Qt c];obtain rfl:l=r:=by omega
   exact⟨h2,b1,b2⟩
  rw[Qr c];have st:ev (cb K) (KasT.ask (p.getD k 0) (p.getD ((l+r) / 2) 0) λc=>if c=true then kas_place p k f l ((l+r) / 2) else kas_place p k f ((l+r) / 2+1) r)=ev (cb K) (if cb K (p.getD k 0) (p.getD ((l+r) / 2) 0)=true then kas_place p k f l ((l+r) / 2) else kas_place p k f ((l+r) / 2+1) r):=rfl;rw[st];clear st
  cases c2:cb K (p.getD k 0) (p.getD ((l+r) / 2) 0) with
  | true =>
   rw[Qt rfl];exact mD u f l ((l+r) / 2) (by omega) (by omega) (by omega) b1 λi g1 g2=>KeyOrd.klt_of_klt_of_kle c2 (u _ _ g1 g2)
  | false =>
  rw[Qr Qm];exact mD u f ((l+r) / 2+1) r (by omega) (by omega) (by omega) (λi g=>KeyOrd.kle_trans (u i ((l+r) / 2) (by omega) (by omega)) c2) b2
theorem uH {p:Array Nat} {k d:Nat} (hk:k<p.size) (hd:d<=k) (i:Nat):at_ K (bubble p k d) i=if i=k-d then at_ K p k else if k-d<i/\i<=k then at_ K p (i-1) else at_ K p i:=by
 have q:=getElem?_bubble (xs:=p) hk d hd i;have e:∀j,at_ K p j=K (p[j]?.getD 0):=λj=>by rw[at_,Xh]
 rw[e,e,e,at_,Xh,q];by_cases c1:i=k-d
 ·rw[Qt c1,Qt c1]
 rw[Qr c1,Qr c1];by_cases c2:k-d<i/\i<=k
 ·rw[Qt c2,Qt c2]
 rw[Qr c2,Qr c2]
theorem yd:∀f (p:Array Nat) k,Up K p k->k+f<=p.size->(ev (cb K) (kas_bin f p k)).Perm p/\Up K (ev (cb K) (kas_bin f p k)) (k+f)
 | 0,p,k,u,_=>⟨.refl _,u⟩
 | f+1,p,k,u,hz=>by
  unfold kas_bin;rw[eG];obtain⟨a1,a2,a3⟩:=mD (K:=K) u k 0 k (QP _) (Qg _) (by omega) (λi h=>absurd h (Nat.not_lt_zero _)) (λi g1 g2=>absurd g2 (by omega));generalize ev (cb K) (kas_place p k k 0 k)=l at *;have gb:=uH (K:=K) (p:=p) (k:=k) (d:=k-l) (by omega) (by omega);have el:k-(k-l)=l:=by omega
  rw[el]at gb
  have u':Up K (bubble p k (k-l)) (k+1):=λi j g1 g2=>by
   rw[gb i,gb j];by_cases i1:i=l
   ·rw[Qt i1];by_cases j1:j=l
    ·rw[Qt j1];exact O.irrefl _
    rw[Qr j1,Qt ⟨by omega,by omega⟩];exact KeyOrd.klt_asymm (a3 _ (by omega) (by omega))
   rw[Qr i1];by_cases i2:l<i/\i<=k
   ·rw[Qt i2,Qr (by omega),Qt ⟨by omega,by omega⟩];exact u _ _ (by omega) (by omega)
   rw[Qr i2];by_cases j1:j=l
   ·rw[Qt j1];exact a2 i (by omega)
   rw[Qr j1];by_cases j2:l<j/\j<=k
   ·rw[Qt j2];exact u _ _ (by omega) (by omega)
   rw[Qr j2];exact u _ _ g1 (by omega)
  obtain⟨b1,b2⟩:=yd f (bubble p k (k-l)) (k+1) u' (by rw[bubble_size];omega);exact⟨b1.trans (bubble_perm ..),by rw[show k+(f+1)=k+1+f by omega];exact b2⟩
theorem sort_ (h0:0<N):(ev (cb K) (kas_sort N)).Perm (List.range N).toArray/\Up K (ev (cb K) (kas_sort N)) N:=by
 unfold kas_sort;rw[eG];obtain⟨a1,a2,a3,a4⟩:=wN (K:=K) (p:=(List.range N).toArray) (nrem:=N) h0 (by simp);have sz:(ev (cb K) (kas_count N (List.range N).toArray)).2.size=N:=by rw[a1.size_eq];simp
 generalize ev (cb K) (kas_count N (List.range N).toArray)=r at *
 split
 ·have e:max r.1 1=r.1:=Nat.max_eq_left a3;rw[e];obtain⟨b1,b2⟩:=yd (K:=K) (N-r.1) r.2 r.1 a2 (by omega);exact⟨b1.trans a1,by rw[show r.1+(N-r.1)=N by omega]at b2;exact b2⟩
 exact⟨a1,by rw[show N=r.1 by omega];exact a2⟩
end
end Ks
namespace Tm
open PySem PySem.Spec PyProof.Rows
def yk (κ:PyProof.Rows.KeyKind) (kd:SortKind) (prog:Program) (w:World) (A:Around) (s:Shared):Prop :=
 ∀(E:A0) (x y:Value) (a b:κ.α) (Q:Bool->Shared->Prop),κ.keyOf x=some a->κ.keyOf y=some b->Q (κ.blt a b) s->wpAny (model prog w) A (keyLt' kd x y) Q E s
def kv (κ:PyProof.Rows.KeyKind) (p:Keyed):κ.α:=(κ.keyOf p.1).getD κ.dflt
def le (κ:PyProof.Rows.KeyKind) (p q:Keyed):Prop:=κ.kle (kv κ p) (kv κ q)
def leV (κ:PyProof.Rows.KeyKind) (u v:Value):Prop:=le κ (u,u) (v,v)
section
variable {prog:Program} {w:World} {A:Around} {E:A0} {s:Shared}
structure Can (prog:Program) (w:World) (up:Around->Prop) (κ:PyProof.Rows.KeyKind) (kd:SortKind) (h:Heap) (a:Addr) (vs:List Value):Prop where
 key:∀v∈vs,∃x,κ.keyOf v=some x
 lt:∀(A:Around) (s:Shared),up A->(∀b o,b≠a->h.get? b=some o->s.heap.get? b=some o)->yk κ kd prog w A s
 kind:2<=vs.length->∀(A:Around) (E:A0) (s:Shared) (Q:SortKind->Shared->Prop),(∀b o,b≠a->h.get? b=some o->s.heap.get? b=some o)->Q kd s->wpAny (model prog w) A (keyKind' vs.toArray) Q E s
variable {vs:List Value} {κ:PyProof.Rows.KeyKind}
theorem rK {p:Array Nat} (hp:p.Perm (List.range vs.length).toArray) (u:Ks.Up (O:=κ.toKeyOrd) (λi=>kv κ (vs.getD i Value.none,vs.getD i Value.none)) p vs.length) :
  (p.toList.map λi=>vs.getD i Value.none).Perm vs/\(p.toList.map λi=>vs.getD i Value.none).Pairwise (leV κ):=by
 have pl:p.toList.Perm (List.range vs.length):=by simpa using Array.perm_iff_toList_perm.mp hp
 have sz:p.size=vs.length:=by rw[hp.size_eq];simp
 refine⟨?_,?_⟩
 ·have e:vs=(List.range vs.length).map λi=>vs.getD i Value.none:=by
   refine List.ext_getElem (by simp) λi h1 h2=>?_;rw[List.getElem_map,List.getElem_range,Qy,Qc h1];rfl
  conv=>rhs;rw[e]
  exact pl.map _
 rw[QY,List.pairwise_iff_getElem];intro i j hi hj hij;have:=u i j (by omega) (by rw[Ql]at hj;omega);unfold Ks.at_ at this;rw[Ql]at hi hj;have e1:p.getD i 0=p.toList[i]:=by simp[Array.getD,hi]
 have e2:p.getD j 0=p.toList[j]:=by simp[Array.getD,hj]
 rw[e1,e2]at this;exact this
theorem uv {kd:SortKind} {G:Array Nat->Shared->Prop} (hL:yk κ kd prog w A s) (hk:∀v∈vs,∃x,κ.keyOf v=some x) (h0:0<vs.length)
  (h:∀p:Array Nat,(p.toList.map λi=>vs.getD i Value.none).Perm vs->(p.toList.map λi=>vs.getD i Value.none).Pairwise (leV κ)->G p s):(PySem.W.kas_sort vs.length).kasWp (PySem.W.kas_ask prog w A kd vs) G s:=by
 refine Ks.wp_of (N:=vs.length) (c:=Ks.cb (O:=κ.toKeyOrd) λi=>kv κ (vs.getD i Value.none,vs.getD i Value.none)) (λi j hi hj C hC=>?_) _ (Ks.low_sort h0) ?_
 ·have mem:∀i,i<vs.length->∃x,κ.keyOf (vs.getD i Value.none)=some x:=λi hi=>hk _ (by rw[Qy,Qc hi];exact Xb hi);obtain⟨a,ha⟩:=mem i hi;obtain⟨b,hb⟩:=mem j hj;refine hL _ _ _ a b _ ha hb ?_
  have e:Ks.cb (O:=κ.toKeyOrd) (λi=>kv κ (vs.getD i Value.none,vs.getD i Value.none)) i j=κ.blt a b:=by
   show κ.blt ((κ.keyOf (vs.getD i Value.none)).getD κ.dflt) ((κ.keyOf (vs.getD j Value.none)).getD κ.dflt)=_;rw[ha,hb];rfl
  rw[e]at hC;exact hC
 obtain⟨a1,a2⟩:=Ks.sort_ (O:=κ.toKeyOrd) (K:=λi=>kv κ (vs.getD i Value.none,vs.getD i Value.none)) h0;obtain⟨b1,b2⟩:=rK a1 a2;exact h _ b1 b2
variable {a b d:Addr}
theorem gS {up:Around->Prop} {kd:SortKind} {n:Nat} {P:Fin->Shared->Prop} (ho:s.heap.get? a=some (seqObj "list" vs.toArray n)) (c:Can prog w up κ kd s.heap a vs) (hu:up A) (hn:vs.length<64)
  (h:∀out:Array Value,out.toList.Perm vs->out.toList.Pairwise (leV κ)->P (.done (.ret .none)) { s with heap:=sortedHeap s.heap a vs out }):wpAny (model prog w) A (Builtin.«list.sort» ⟨[.ref a],[]⟩) P E s:=by
 rw[list_sort_plain];have ha:a<s.heap.objs.size:=Qp ho;refine Qa (listItems_at ho rfl (Qa (listUpdate_at ho rfl ?_)));obtain⟨e1,ho1⟩:∃e1,(s.heap.update a (Obj.mapSeq λ_=>#[])).get? a=some (seqObj "list" #[] e1):=⟨_,get?_update_seq ho (λ_=>#[])⟩;refine Qa (seqEpoch_at ho1 rfl (Qa (wpAny_newTuple (Qa (wpAny_newList (Q9 ?_))) (by rw[XH];show vs.length<=_;omega))))
 have keep:∀b o,b≠a->s.heap.get? b=some o->(((s.heap.update a (Obj.mapSeq λ_=>#[])).push (seqObj "tuple" vs.toArray 0)).push (seqObj "list" #[] 0)).get? b=some o:=λb o hb e =>
  Qb _ (Qb _ ((Xg _ _ (Ne.symm hb)).trans e))
 have ho6:(((s.heap.update a (Obj.mapSeq λ_=>#[])).push (seqObj "tuple" vs.toArray 0)).push (seqObj "list" #[] 0)).get? a=some (seqObj "list" #[] e1):=Qb _ (Qb _ ho1);show wpAny (model prog w) A _ P E { s with heap:=((s.heap.update a (Obj.mapSeq λ_=>#[])).push (seqObj "tuple" vs.toArray 0)).push (seqObj "list" #[] 0) };dsimp only;have zs:vs.toArray.size=vs.length:=by simp
 by_cases c2:vs.toArray.size<2
 ·rw[Qt c2,Qt c2];refine Qa (Qf ?_);rw[StateT.run_pure];refine Qa (Qf (Qa (seqEpoch_at ho6 rfl (Qa (listUpdate_at ho6 rfl ?_ (hsz2:=by rw[Array.size_map];show (pairsOf vs).size<=_;rw[pairsOf_size,XH];omega))))));simp only[bne_self_eq_false,QE,Xs];have e:((vs.toArray.zip vs.toArray).map (·.2)).toList=vs:=by simp[List.map_snd_zip]
  have p1:(((vs.toArray.zip vs.toArray).map (·.2)).toList).Perm vs:=by rw[e]
  have p2:(((vs.toArray.zip vs.toArray).map (·.2)).toList).Pairwise (leV κ):=by
   rw[e]
   match vs,zs,c2 with
   | [],_,_=>exact List.Pairwise.nil
   | [v],_,_=>exact List.pairwise_singleton _ _
   | v::u::r,zs,c2=>exact absurd c2 (by simp)
  exact Qf (h _ p1 p2)
 rw[Qr c2,Qr c2];refine Qa (c.kind (by omega) _ _ _ _ keep ?_);have h2:2<=vs.length:=by omega
 refine Qa (XM (PySem.W.kat_run (κ:=kd) (ks:=vs) (vs:=vs) (G:=λp s'=>s'=_/\(p.toList.map λi=>vs.getD i Value.none).Perm vs/\(p.toList.map λi=>vs.getD i Value.none).Pairwise (leV κ))
  (Q:=λst' s'=>s'=_/\failedOf st'=none/\∃l:List Value,(arrOf st').map (·.2)=l.toArray/\l.Perm vs/\l.Pairwise (leV κ)) rfl h2 hn
  (λp st' s' a1 a2 a3 a4=>⟨a4.1,a3,_,PySem.W.kat_snds rfl a2,a4.2⟩) (uv (c.lt _ _ hu keep) c.key (by omega) λp q1 q2=>⟨rfl,q1,q2⟩)) ?_ λ_ _ e=>e)
 rintro⟨⟨⟩,st'⟩ s' ⟨rfl,hf,l,hl,q1,q2⟩;dsimp only;rw[hl];refine Qa (seqEpoch_at ho6 rfl (Qa (listUpdate_at ho6 rfl ?_ (hsz2:=by rw[Qi,q1.length_eq,XH];omega))));rw[hf];simp only[bne_self_eq_false,QE,Xs];exact Qf (h _ q1 q2)
theorem dW {h:Heap} {out:Array Value} {o:Obj} (hb:b≠a) (e:h.get? b=some o):(sortedHeap h a vs out).get? b=some o:=by
 unfold sortedHeap;exact(Xg _ _ (Ne.symm hb)).trans (Qb _ (Qb _ ((Xg _ _ (Ne.symm hb)).trans e)))
theorem eK {h:Heap} {vs:List Value} {out:Array Value} {n:Nat} (e:h.get? a=some (seqObj "list" vs.toArray n)):∃m,(sortedHeap h a vs out).get? a=some (seqObj "list" out m):=by
 unfold sortedHeap;exact⟨_,get?_update_seq (Qb _ (Qb _ (get?_update_seq e (λ_=>#[])))) (λ_=>out)⟩
theorem pB {up:Around->Prop} {κ:Heap->PyProof.Rows.KeyKind} {kd:SortKind} {r:Value} {Q:A0} {G:Heap->List Value->Prop}
  (col:∀(A:Around) (E:A0) (R:List Value->Shared->Prop),A.handled=none->(∀h' tk vs,(∀b o,s.heap.get? b=some o->h'.get? b=some o)->s.heap.objs.size<=h'.objs.size->G h' vs->R vs { s with heap:=h',toks:=tk })->wpAny (model prog w) A (collect r) R E s)
  (hh:A.handled=none) (hu:up A.in1.in1) (can:∀h' vs D,(∀b o,s.heap.get? b=some o->h'.get? b=some o)->G h' vs->D=h'.objs.size->vs.length<64/\Can prog w up (κ h') kd (h'.push (seqObj "list" vs.toArray 0)) D vs)
  (h:∀D h' tk vs h1 (out:Array Value) m,(∀b o,s.heap.get? b=some o->h1.get? b=some o)->G h1 vs->(∀b o,h1.get? b=some o->h'.get? b=some o)->s.heap.objs.size<=D->h1.objs.size<=D->h'.get? D=some (seqObj "list" out m)->out.toList.Perm vs->out.toList.Pairwise (leV (κ h1))->Q (.ref D) { s with heap:=h',toks:=tk }) :
  wpAny (model prog w) A (call (.builtin "sorted") [r]) Q E s:=by
 refine Calls.call_function_entry kind_sorted plain_sorted entry_sorted (args_sorted1 _) ?_;unfold Builtin.«sorted»;refine Qa (m:=checkCount "sorted" 1 1 _) (Qf ?_);refine Qa (col A.in1 E _ hh λh1 tk vs k1 z1 g1=>?_);obtain⟨len,_⟩:=can h1 vs h1.objs.size k1 g1 rfl;refine Qa (wpAny_newList ?_ (by rw[XH];omega));obtain⟨_,cn⟩:=can h1 vs h1.objs.size k1 g1 rfl;have hoL:(h1.push (seqObj "list" vs.toArray 0)).get? h1.objs.size=some (seqObj "list" vs.toArray 0):=Qq _ rfl;refine Qa (Q9 (Q5 (s:={ s with heap:=h1.push (seqObj "list" vs.toArray 0),toks:=tk }) slot_list_sort ⟨_,hoL,rfl⟩ entry_list_sort (gS hoL cn hu len λout p1 p2=>⟨_,rfl,?_⟩) (args_list_sort _)));obtain⟨m,at'⟩:=eK (vs:=vs) (out:=out) hoL;exact Qf ⟨_,rfl,h _ _ _ vs h1 out m k1 g1 (λb o e=>dW (QC (Qp e)) (Qb _ e)) z1 (Qg _) at' p1 p2⟩
theorem tw {T:String} {r:Addr} {n:Nat} {P:Nat->Value->Prop} {OK:Heap->Prop} {R:List Value->Shared->Prop} (K:PySem.W.KdlSrc prog w T r d n P OK) (hh:A.handled=none) (ok:OK s.heap) (hn:n<=sizeLine)
  (h:∀(g:Heap) (tk:Nat) (acc:Array Value),(∀b o,s.heap.get? b=some o->g.get? b=some o)->s.heap.objs.size<=g.objs.size->PySem.ItemsOf P acc n->R acc.toList { s with heap:=g,toks:=tk }):wpAny (model prog w) A (collect (.ref r)) R E s:=by
 obtain⟨l1,l2⟩:=K.there _ ok;unfold collect;refine Qa (wpAny_runValue (Xy entry_proto_collect' ?_));rw[Xj PySem.F.plain_proto_collect _];refine Qa (XE (Qf ⟨plainId_quiet PySem.F.plain_list_iadd _,Xy entry_list_iadd' ?_⟩));rw[Xj PySem.F.plain_list_iadd _]
 refine XM (PySem.W.kdl_extend (A:=A) (s:={ s with heap:=s.heap.push { cls:=.type "list", data:=.seq ([]:List Value).toArray } }) (R:=λq s'=>∃(g:Heap) (tk:Nat) (acc:Array Value) (c:Nat),q=.ok (.ret (.ref s.heap.objs.size))/\s'={ s with heap:=g,toks:=tk } /\
   (∀b o,s.heap.get? b=some o->g.get? b=some o)/\g.get? s.heap.objs.size=some { cls:=.type "list", dict:=none,data:=.seq acc c,slots:=#[] }/\PySem.ItemsOf P acc n)
  K hh (K.keep _ _ ok λb _ o e=>Qb _ e) s.heap.objs.size (Nat.ne_of_gt l1) (Nat.ne_of_gt l2) (.ref s.heap.objs.size) 0 (Qq _ rfl)
  (λg tk acc c k at' it=>⟨g,tk,acc,c,rfl,rfl,λb o e=>k b o (QC (Qp e)) (Qb _ e),at',it⟩) hn) (λfn s' x=>?_) λe s' x=>?_
 ·cases fn with
  | done f =>
   obtain⟨g,tk,acc,c,e,rfl,k,at',it⟩:=x;cases e;exact Qa (wpAny_load at' (Qf (h g tk acc k (Nat.le_of_lt (Qp at')) it)))
  | again c1 =>
   refine⟨x.1,codeAny_mono x.2 λq s2 y=>?_⟩;obtain⟨g,tk,acc,c,rfl,rfl,k,at',it⟩:=y;exact Qa (wpAny_load at' (Qf (h g tk acc k (Nat.le_of_lt (Qp at')) it)))
 obtain⟨_,_,_,_,z,_⟩:=x;cases z
end
end Tm
set_option maxHeartbeats 4000000
namespace Tm
open PySem PySem.Spec PyProof.Rows L2
def kb:Key->Key->Bool
 | .inl i,.inl j=>decide (i<j)
 | .inl _,.inr _=>true
 | .inr _,.inl _=>false
 | .inr x,.inr y=>decide (x.cps.toList<y.cps.toList)
def lb:List Key->List Key->Bool
 | [],[]=>false
 | [],_::_=>true
 | _::_,[]=>false
 | a::as,b::bs=>kb a b || (decide (a=b)&&lb as bs)
theorem uM {x y:Str} (e:x.cps.toList=y.cps.toList):x=y:=by cases x;cases y;exact congrArg Str.mk (Array.toList_inj.mp e)
theorem jI (a:Key):kb a a=false:=by
 cases a with
 | inl i=>exact Qv (Int.lt_irrefl _)
 | inr x=>exact Qv (List.lt_irrefl _)
theorem wB (a b:Key):kb a b=true\/a=b\/kb b a=true:=by
 cases a with
 | inl i =>
  cases b with
  | inl j =>
   rcases Int.lt_trichotomy i j with h|h|h
   ·exact .inl (Qx h)
   ·exact .inr (.inl (by rw[h]))
   exact .inr (.inr (Qx h))
  | inr y=>exact .inl rfl
 | inr x =>
 cases b with
 | inl j=>exact .inr (.inr rfl)
 | inr y =>
 by_cases h1:x.cps.toList<y.cps.toList
 ·exact .inl (Qx h1)
 by_cases h2:y.cps.toList<x.cps.toList
 ·exact .inr (.inr (Qx h2))
 exact .inr (.inl (by rw[uM (List.le_antisymm (List.not_lt.mp h2) (List.not_lt.mp h1))]))
theorem sC {a b c:Key} (h1:kb a b=true) (h2:kb b c=true):kb a c=true:=by
 cases a with
 | inl i =>
  cases c with
  | inr z=>rfl
  | inl k =>
  cases b with
  | inr y=>cases h2
  | inl j=>exact Qx (Int.lt_trans (XD h1) (XD h2))
 | inr x =>
 cases b with
 | inl j=>cases h1
 | inr y =>
 cases c with
 | inl k=>cases h2
 | inr z=>exact Qx (List.lt_trans (XD h1) (XD h2))
theorem jH:∀l:List Key,lb l l=false
 | []=>rfl
 | a::l=>by unfold lb;rw[jI,jH l];simp
theorem jG:∀x y:List Key,lb x y=true\/x=y\/lb y x=true
 | [],[]=>.inr (.inl rfl)
 | [],_::_=>.inl rfl
 | _::_,[]=>.inr (.inr rfl)
 | a::x,b::y=>by
  unfold lb;rcases wB a b with h|rfl|h
  ·exact .inl (by rw[h];rfl)
  ·rcases jG x y with h|rfl|h
   ·exact .inl (by rw[h];simp)
   ·exact .inr (.inl rfl)
   exact .inr (.inr (by rw[h];simp))
  exact .inr (.inr (by rw[h];rfl))
theorem d9:∀{x y z:List Key},lb x y=true->lb y z=true->lb x z=true
 | [],_,[],h1,h2=>by cases h2':(‹List Key›) with
  | nil=>rw[h2']at h1;cases h1
  | cons _ _=>rw[h2']at h2;cases h2
 | [],_,_::_,_,_=>rfl
 | _::_,[],_,h1,_=>by cases h1
 | _::_,_::_,[],_,h2=>by cases h2
 | a::x,b::y,c::z,h1,h2=>by
  unfold lb at h1 h2 ⊢;rw[Bool.or_eq_true,Xz,decide_eq_true_eq] at *;rcases h1 with h1|⟨rfl,h1⟩
  ·rcases h2 with h2|⟨rfl,h2⟩
   ·exact .inl (sC h1 h2)
   exact .inl h1
  rcases h2 with h2|⟨rfl,h2⟩
  ·exact .inl h2
  exact .inr ⟨rfl,d9 h1 h2⟩
def leK (x y:List Key):Prop:=lb y x=false
theorem lh {x y:List Key} (h1:leK x y) (h2:leK y x):x=y:=by
 rcases jG x y with h|h|h
 ·rw[h2]at h;cases h
 ·exact h
 rw[h1]at h;cases h
theorem pP (x y:List Key):leK x y\/leK y x:=by
 cases h:lb y x with
 | false=>exact .inl h
 | true =>
 refine .inr ?_
 cases h2:lb x y with
 | false=>exact h2
 | true=>have:=d9 h h2;rw[jH]at this;cases this
noncomputable def wA:PyProof.Rows.KeyOrd where
 α:=List Key
 blt:=lb
 irrefl:=jH
 trans _ _ _ h1 h2:=d9 h1 h2
 negTrans a b c h:=by
  rcases jG a b with h1|rfl|h1
  ·exact .inl h1
  ·exact .inr h
  exact .inr (d9 h1 h)
 total a b h1 h2:=lh h2 h1
def sh1:Key->Bool
 | .inl _=>false
 | .inr _=>true
def sh2:Key ⊕ List Key->Bool ⊕ List Bool
 | .inl k=>.inl (sh1 k)
 | .inr ks=>.inr (ks.map sh1)
def flat:av->List Key
 | []=>[]
 | .inl k::r=>k::flat r
 | .inr ks::r=>ks++flat r
theorem gq (a b:Key) (x y:List Key):lb (a::x) (b::y)=(kb a b || (decide (a=b)&&lb x y)):=rfl
theorem mR:∀{x y:List Key} {u v:List Key},x.length=y.length->lb (x++u) (y++v)=(lb x y || (decide (x=y)&&lb u v))
 | [],[],u,v,_=>by simp[lb]
 | a::x,b::y,u,v,h=>by
  rw[List.cons_append,List.cons_append,gq,gq,mR (by simpa using h)];by_cases e:a=b
  ·subst e;simp[jI]
  simp[e]
section
variable {prog:Program} {w:World} {A:Around} {E:A0} {s:Shared}
theorem xU {x y:Key} {u v:Value} {R:A0} (e:sh1 x=sh1 y) (hx:dh x u=true) (hy:dh y v=true) (h:R (.bool (kb x y)) s):wpAny (model prog w) A (compareOp .Lt u v) R E s:=by
 rcases aE hx with⟨i,t,rfl,rfl⟩|⟨z,t,rfl,rfl⟩
 ·rcases aE hy with⟨j,t',rfl,rfl⟩|⟨z',t',rfl,rfl⟩
  ·exact lt_int h
  cases e
 rcases aE hy with⟨j,t',rfl,rfl⟩|⟨z',t',rfl,rfl⟩
 ·cases e
 exact PyProof.Rows.lt_str h
theorem ur {x y:List Key} {a b:Addr} {P:Fin->Shared->Prop} (e:x.map sh1=y.map sh1) (hx:IsTupleKey (au prog w) s.heap x a) (hy:IsTupleKey (au prog w) s.heap y b) (h:P (.done (.ret (.bool (lb x y)))) s) :
  wpAny (model prog w) A (Builtin.«tuple.__lt__» ⟨[.ref a,.ref b],[]⟩) P E s:=by
 have hTb:=hy.typeIs;obtain⟨oa,xs,na,hoa,_,hda,hia⟩:=hx;obtain⟨ob,ys,nb,hob,_,hdb,hib⟩:=hy;show wpAny _ _ (isInstance (.ref b) (.type "tuple") >>= _) _ _ s;refine Qa (wpAny_isInstance hTb isSubtype_tuple_tuple ?_);simp only[XU,QE,Xs];refine Qa (wpAny_tupleItemsOf hoa hda ?_);refine Qa (wpAny_tupleItemsOf hob hdb ?_);refine Qa ?_
 have zz:xs.size=ys.size:=by
  have:=congrArg List.length e;rw[Qd,Qd,hia.length,hib.length,Ql,Ql]at this;exact this
 refine wpAny_forIn_list _
  (λrest r s'=>r.1=none/\s'=s/\∃x' y' xs' ys',rest=List.zip xs' ys'/\ItemsAre (au prog w) x' xs'/\ItemsAre (au prog w) y' ys'/\lb x' y'=lb x y/\x'.map sh1=y'.map sh1)
  _ ?_ ?_ _ _ ⟨rfl,rfl,x,y,xs.toList,ys.toList,rfl,hia,hib,rfl,e⟩
 ·rintro⟨u,v⟩ rest r s' ⟨hr,rfl,x',y',xs',ys',hz,hx',hy',hdec,hsh⟩
  cases hx' with
  | nil=>simp at hz
  | @cons k1 u' x'' xs'' h1 hx'' =>
  cases hy' with
  | nil=>simp at hz
  | @cons k2 v' y'' ys'' h2 hy'' =>
  simp only[List.zip_cons_cons,List.cons.injEq,Prod.mk.injEq]at hz;obtain⟨⟨rfl,rfl⟩,rfl⟩:=hz;rw[Qu,Qu]at hsh;injection hsh with s1 s2;refine Qa ((au prog w).eqBool (a:=k1) (b:=k2) h1 h2 ?_);by_cases hk:k1=k2
  ·subst hk;rw[Qx rfl];simp only[XU,QE,Xs];refine Qf ⟨rfl,rfl,x'',y'',xs'',ys'',rfl,hx'',hy'',?_,s2⟩;rw[<-hdec]
   conv=>rhs;unfold lb
   rw[jI];simp
  rw[Qv hk];simp only[Bool.not_false,if_true];have hf:lb x y=kb k1 k2:=by rw[<-hdec];unfold lb;simp[hk]
  rw[hf]at h;refine Qa (wpAny_rule (Qa ?_));refine xU s1 h1 h2 ?_;exact Qa (Qf (Qf (Qf h)))
 rintro⟨r1,r2⟩ s' ⟨hr,rfl,x',y',xs',ys',hz,hx',hy',hdec,hsh⟩;simp only at hr;subst hr;refine Qf ?_
 have e0:lb x y=false:=by
  rw[<-hdec]
  cases hx' with
  | nil=>cases hy' with
   | nil=>rfl
   | cons _ _=>cases hsh
  | cons _ _=>cases hy' with
   | nil=>cases hsh
   | cons _ _=>simp at hz
 rw[e0]at h;have:Builtin.Tuple.tupleCompareSizes .Lt xs.size ys.size=.bool false:=by rw[zz];simp[Builtin.Tuple.tupleCompareSizes]
 show P (.done (.ret (Builtin.Tuple.tupleCompareSizes .Lt xs.size ys.size))) s';rw[this];exact h
theorem vM {x y:List Key} {a b:Addr} {R:A0} (hu:A.units<cLine) (e:x.map sh1=y.map sh1) (hx:IsTupleKey (au prog w) s.heap x a) (hy:IsTupleKey (au prog w) s.heap y b) (h:R (.bool (lb x y)) s) :
  wpAny (model prog w) A (compareOp .Lt (.ref a) (.ref b)) R E s:=by
 show wpAny _ _ (richCompare .Lt _ _) _ _ _;exact wpAny_richCompare_same_room (op:=.Lt) hx.typeIs hy.typeIs F.slot_tuple_lt (Q5 F.slot_tuple_lt hx.typeIs F.entry_tuple_lt (ur e hx hy ⟨_,rfl,(λe=>nomatch e),h⟩) (F.args_tuple_lt_2 _ _)) hu
theorem sD {x y:av} {xs ys:List Value} {b:Bool} {Q:Bool->Shared->Prop} (hu:A.units<cLine) (hx:TK.Its (au prog w) s.heap x xs) (hy:TK.Its (au prog w) s.heap y ys) (e:x.map sh2=y.map sh2):∀i,(i=0->b=true->∃k r,x=.inl (.inr k)::r)->Q (lb (flat x) (flat y)) s ->
  PySem.W.KatLex prog w A b false Q (xs.zip ys) i s:=by
 induction hx generalizing y ys with
 | nil =>
  cases hy with
  | nil=>intro i _ q;exact PySem.W.kat_nil q
  | cons _ _=>cases e
 | @cons k1 u x' xs' h1 t1 ih =>
 cases hy with
 | nil=>cases e
 | @cons k2 v y' ys' h2 t2 =>
 intro i hb q;rw[Qu,Qu]at e;injection e with e1 e2;refine PySem.W.kat_cons (TK.it_eq (jD prog w) hu h1 h2 (PySem.W.kat_go (λc=>PySem.W.kat_yes (ih t2 e2 _ (λz=>absurd z (Nat.succ_ne_zero _)) ?_)) (λc=>PySem.W.kat_no ?_)))
 ·obtain rfl:k1=k2:=by simpa using c
  have:lb (flat (k1::x')) (flat (k1::y'))=lb (flat x') (flat y'):=by
   cases k1 with
   | inl k=>show lb (k::flat x') (k::flat y')=_;rw[gq,jI];simp
   | inr ks=>show lb (ks++flat x') (ks++flat y')=_;rw[mR rfl,jH];simp
  rw[this]at q;exact q
 have ne:k1≠k2:=by simpa using c
 cases k1 with
 | inl k =>
  cases k2 with
  | inr js=>cases e1
  | inl j =>
  have hkj:k≠j:=λz=>ne (by rw[z]);have:lb (flat (.inl k::x')) (flat (.inl j::y'))=kb k j:=by show lb (k::flat x') (j::flat y')=_;rw[gq];simp[hkj]
  rw[this]at q;have e1:sh1 k=sh1 j:=Sum.inl.inj e1;by_cases c1:(b&&i==0)=true
  ·rw[c1];rw[Xz]at c1;obtain⟨k',r,ek⟩:=hb (by simpa using c1.2) c1.1;injection ek with ek _;injection ek with ek;subst ek;rcases aE (show dh (.inr k') u=true from h1) with⟨_,_,z,_⟩|⟨_,t,z,rfl⟩
   ·cases z
   cases z;rcases aE (show dh j v=true from h2) with⟨_,_,rfl,_⟩|⟨z',t',rfl,rfl⟩
   ·cases e1
   exact oneLt_str q
  rw[show (b&&i==0)=false by simpa using c1];exact PySem.W.kat_one _ _ (xU e1 h1 h2 q)
 | inr ks =>
 cases k2 with
 | inl j=>cases e1
 | inr js =>
 obtain⟨a1,rfl,g1⟩:=h1;obtain⟨a2,rfl,g2⟩:=h2;have e1:ks.map sh1=js.map sh1:=Sum.inr.inj e1;have len:ks.length=js.length:=by have:=congrArg List.length e1;simpa using this
 have hkj:ks≠js:=λz=>ne (by rw[z]);have:lb (flat (.inr ks::x')) (flat (.inr js::y'))=lb ks js:=by show lb (ks++flat x') (js++flat y')=_;rw[mR len];simp[hkj]
 rw[this]at q
 have c1:(b&&i==0)=false:=by
  cases c1:(b&&i==0) with
  | false=>rfl
  | true =>
  rw[Xz]at c1;obtain⟨k',r,ek⟩:=hb (by simpa using c1.2) c1.1;cases ek
 rw[c1];exact PySem.W.kat_one _ _ (vM hu e1 g1 g2 q)
end
def lx (bs:A3) (tk:Addr->av):PyProof.Rows.KeyKind:={ wA with
 keyOf:=λv=>match v with
  | .ref b=>if b∈bs then some (flat (tk b)) else none
  | _=>none
 dflt:=[] }
theorem iY {bs:A3} {tk:Addr->av} {v:Value} {k:List Key} (e:(lx bs tk).keyOf v=some k):∃b,v=.ref b/\b∈bs/\k=flat (tk b):=by
 have no:¬(none:Option (List Key))=some k:=λz=>nomatch z
 cases v with
 | ref b =>
  have e:(if b∈bs then some (flat (tk b)) else none)=some k:=e;by_cases c:b∈bs
  ·rw[Qt c]at e;exact⟨b,rfl,c,(QJ e).symm⟩
  rw[Qr c]at e;cases e
 | _=>exact absurd e no
theorem fA {bs:A3} (tk:Addr->av) {b:Addr} (h:b∈bs):(lx bs tk).keyOf (.ref b)=some (flat (tk b)):=Qt h
def Shp (b:Bool) (bs:A3) (tk:Addr->av):Prop:=(∀a∈bs,∀c∈bs,(tk a).map sh2=(tk c).map sh2)/\∀a∈bs,if b=true then ∃k r,tk a=.inl (.inr k)::r else ∃k r,tk a=.inr k::r
section
variable {prog:Program} {w:World}
theorem bX {h h':Heap} {k:av} {a:Addr} (x:TK.IsT (au prog w) h k a) (ks:∀b o,h.get? b=some o->o.cls=.type "tuple" -> h'.get? b=some o):TK.IsT (au prog w) h' k a:=by
 obtain⟨o,items,n,h1,h2,h3,h4⟩:=x;refine⟨o,items,n,ks _ _ h1 h2,h2,h3,h4.imp λk v q=>?_⟩
 cases k with
 | inl k=>exact q
 | inr ks' =>
 obtain⟨c,e,o,items,n,h1,h2,h3,h4⟩:=q;exact⟨c,e,o,items,n,ks _ _ h1 h2,h2,h3,h4⟩
theorem lN {h:Heap} {a:Addr} {o:Obj} {bs:A3} {tk:Addr->av} {b:Bool} (ho:h.get? a=some o) (hc:o.cls≠.type "tuple") (p:∀c∈bs,TK.IsT (au prog w) h (tk c) c) (sp:Shp b bs tk) :
  Can prog w (λA=>A.units<cLine) (lx bs tk) (tuples' b) h a (bs.map Value.ref) where
 key v hv:=by
  obtain⟨c,hc,rfl⟩:=Qj.mp hv;exact⟨_,fA tk hc⟩
 lt A s hu ks:=by
  intro E x y k1 k2 Q h1 h2 q;obtain⟨c1,rfl,m1,rfl⟩:=iY h1;obtain⟨c2,rfl,m2,rfl⟩:=iY h2;have kp:∀b o',h.get? b=some o'->o'.cls=.type "tuple" -> s.heap.get? b=some o':=λb o' e ec=>ks _ _ (λz=>by rw[z,ho]at e;cases e;exact hc ec) e;obtain⟨o1,i1,n1,g1,_,d1,t1⟩:=bX (p c1 m1) kp;obtain⟨o2,i2,n2,g2,_,d2,t2⟩:=bX (p c2 m2) kp;have e:=sp.1 _ m1 _ m2
  have ez:decide (i1.size<i2.size)=false:=by
   have l1:∀{k:av} {vs:List Value},TK.Its (au prog w) s.heap k vs->k.length=vs.length:=by
    intro k vs q
    induction q with
    | nil=>rfl
    | cons _ _ ih=>simp[ih]
   have:=congrArg List.length e;rw[Qd,Qd,l1 t1,l1 t2,Ql,Ql]at this;rw[this];exact Qv (XV _)
  refine PySem.W.kat_lt g1 d1 g2 d2 ?_;rw[ez];refine sD hu t1 t2 e 0 (λ_ hb=>?_) q;have:=sp.2 _ m1;rw[Qt hb]at this;exact this
 kind h2 A E s Q ks hq:=by
  have kp:∀b o',h.get? b=some o'->o'.cls=.type "tuple" -> s.heap.get? b=some o':=λb o' e ec=>ks _ _ (λz=>by rw[z,ho]at e;cases e;exact hc ec) e
  have all:∀{l:A3},(∀c∈l,c∈bs)->∃fs:List Value,fs.length=l.length/\PySem.W.KatTups s.heap (l.map Value.ref) fs/\∀f∈fs,PySem.W.Looks (model prog w) s.heap (typeOf f) (.type (if b=true then "str" else "tuple")):=by
   intro l
   induction l with
   | nil=>intro _;exact⟨[],rfl,.nil,λf hf=>nomatch hf⟩
   | cons c l ih =>
   intro hl;obtain⟨fs,z1,z2,z3⟩:=ih λc h=>hl c (Qo _ h);have hcb:=hl c (by simp);obtain⟨o1,i1,n1,g1,cl,d1,t1⟩:=bX (p c hcb) kp;have sp2:=sp.2 c hcb
   cases b with
   | true =>
    rw[Qt rfl]at sp2 ⊢;obtain⟨k,r,ek⟩:=sp2;rw[ek]at t1;generalize hv:i1.toList=vs at t1
    cases t1 with
    | @cons _ v _ vs h1 _ =>
    rcases aE (show dh (.inr k) v=true from h1) with⟨_,_,z,_⟩|⟨_,t,z,rfl⟩
    ·cases z
    refine⟨_::fs,by simp[z1],.cons g1 cl d1 (by rw[<-Q2,hv];rfl) z2,λf hf=>?_⟩;rcases Qh.mp hf with rfl|hf
    ·exact PySem.W.Looks.of_pure rfl
    exact z3 f hf
   | false =>
   rw[Qr Qm]at sp2 ⊢;obtain⟨k,r,ek⟩:=sp2;rw[ek]at t1;generalize hv:i1.toList=vs at t1
   cases t1 with
   | @cons _ v _ vs h1 _ =>
   obtain⟨c',rfl,o2,i2,n2,g2,cl2,_⟩:=h1;refine⟨_::fs,by simp[z1],.cons g1 cl d1 (by rw[<-Q2,hv];rfl) z2,λf hf=>?_⟩;rcases Qh.mp hf with rfl|hf
   ·exact λA Q E s' k q=>wpAny_typeOf_ref (k _ _ g2) (by rw[cl2];exact q)
   exact z3 f hf
  obtain⟨fs,l,kt,hf⟩:=all (l:=bs) λ_ h=>h;rw[Qd]at h2;refine PySem.W.kat_kind (T:=.type (if b=true then "str" else "tuple")) kt (by omega) hf (by cases b <;> decide) ?_;have:(Value.type (if b=true then "str" else "tuple") != Value.type "tuple")=b:=by cases b <;> decide
  rw[this];exact hq
end
end Tm
namespace LZ
open PySem
section
variable {prog:Program} {w:World} {A:Around} {E:A0} {s:Shared}
abbrev IsZ (h:Heap) (z TI TO:Addr) (f0:Value) (f1:Bool):Prop :=
 h.get? z=some { cls:=.type "zip", dict:=none,data:=.fields #[f0,.bool f1,.bool false,.ref TI,.ref TO],slots:=#[] }
structure Apart5 (z TI TO i1 i2 l:Addr):Prop where
 TIz:TI≠z
 TOz:TO≠z
 i1z:i1≠z
 i2z:i2≠z
 TITO:TI≠TO
 TIi1:TI≠i1
 TIi2:TI≠i2
 TOi1:TO≠i1
 TOi2:TO≠i2
 i12:i1≠i2
 lz:l≠z
 lTO:l≠TO
 li1:l≠i1
 li2:l≠i2
theorem vI {a:Addr} {o:Obj} {Q:Option Obj->Shared->Prop} (ho:s.heap.get? a=some o) (h:Q (some o) s):wpAny (model prog w) A (loadIfAlive a) Q E s:=by
 have h':Q (s.heap.get? a) s:=by rw[ho];exact h
 exact λ_ _ _=>h'
theorem next_end {z TI TO i1 i2 l:Addr} {f0:Value} {f1:Bool} {k:Nat} {xs:Array Value} {a b:Value} {Q:Option Value->Shared->Prop} (hh:A.handled=none) (D:Apart5 z TI TO i1 i2 l)
  (hz:IsZ s.heap z TI TO f0 f1) (hf:(f0=.none/\f1=false/\∃a b,IsPair s.heap TO a b)\/∃(T:Addr) (oT:Obj),f0=rawInt (T:Nat)/\s.heap.get? T=some oT) (hTI:IsPair s.heap TI (.ref i1) (.ref i2)) (h1:s.heap.IsListIter i1 l k) (hl:s.heap.IsList l xs) (hv:xs[k]?=none)
  (hQ:∀h',(∀c o,c≠z->c≠i1->s.heap.get? c=some o->h'.get? c=some o)->Q none { s with heap:=h' }):wpAny (model prog w) A (pyNext (.ref z)) Q E s:=by
 have hTy:s.TypeIs (.ref z) "zip" := ⟨_,hz,rfl⟩;unfold pyNext
 refine Qa (wpAny_attempt (Xo (name:=Str.ofString "__next__") hTy F.slot_zip_next
  (Q5 F.slot_zip_next hTy F.entry_zip_next ?_ (F.args_zip_next_1 _))))
 show wpAny _ _ (field (.ref z) 2 >>= _) _ _ _;refine Qa (Xu hz rfl (x:=.bool false) rfl ?_);show wpAny _ _ (field (.ref z) 3 >>= _) _ _ _;refine Qa (Xu hz rfl (x:=.ref TI) rfl ?_);refine Qa (Xx hTI rfl ?_);show wpAny _ _ (Builtin.SmallTypes.ownedTupleIsFree (.ref z) >>= _) _ _ _;refine Qa ?_;unfold Builtin.SmallTypes.ownedTupleIsFree;refine Qa (Xu hz rfl (x:=f0) rfl ?_)
 have fin:∀h' e,(∀c o,c≠z->c≠i1->s.heap.get? c=some o->h'.get? c=some o)->(∃o,h'.get? e=some o/\o.cls=.type "StopIteration") ->
   wpAny (model prog w) A (do if <-isInstance (.ref e) (.type "StopIteration") then pure none else throw (.ref e)) Q E { s with heap:=h' }:=λh' e hk ⟨o,ho,hc⟩ =>
  Qa (wpAny_isInstance (T := "StopIteration") (b:=true) ⟨o,ho,hc⟩ isSubtype_stop (Qf (hQ _ hk)))
 rcases hf with⟨e1,e2,a,b,hTO⟩|⟨T,oT,e1,hT⟩
 ·subst e1 e2;refine Qf ?_;simp only[if_true];refine Qa (wpAny_rule ?_);refine Qa (Xu hz rfl (x:=.ref TO) rfl ?_);refine Qa (XI hz (by simp) λh₁ hz1 hs₁=>?_)
  replace hz1:IsZ h₁ z TI TO .ellipsis false:=hz1
  refine Qa ?_;simp only[List.zipIdx_cons,List.zipIdx_nil,List.forIn_cons,List.forIn_nil];refine Qa (Qa (wpAny_onRaise ?_));show wpAny _ _ (Builtin.SmallTypes.nextOf (.ref i1) >>= _) _ _ _;refine Qa (wpAny_nextOf_list_end hh (h1.extBut hs₁.extBut D.i1z) (hl.extBut hs₁.extBut D.lz) hv λh₂ e hs₂ he=>?_);obtain⟨oe,hoe,hce⟩:=he;have hz₂:IsZ h₂ z TI TO .ellipsis false:=hs₂ _ _ D.i1z.symm hz1;have hez:e≠z:=λx=>by subst x;rw[hz₂]at hoe;cases hoe;simp at hce
  refine XI hz₂ (by simp) λh₃ _ hs₃=>?_;exact fin h₃ e (λc o c1 c3 x=>hs₃.extBut _ _ c1 (hs₂ _ _ c3 (hs₁.extBut _ _ c1 x))) ⟨oe,hs₃.extBut _ _ hez hoe,hce⟩
 subst e1;show wpAny _ _ (loadIfAlive ((T:Int).toNat) >>= _) _ _ _;rw[QX];refine Qa (vI hT ?_);simp only[Option.isNone_some,QE,Xs];refine Qa (Xu hz rfl (x:=.bool f1) rfl ?_)
 cases f1 with
 | false =>
  simp only[show (Value.bool false != Value.bool true)=true from rfl,if_true];refine Qa (XI hz (by simp) λh₁ hz1 hs₁=>Qf ?_)
  replace hz1:IsZ h₁ z TI TO (rawInt T) true:=hz1
  simp only[QE,Xs,List.forIn_toArray,List.forIn_cons,List.forIn_nil];refine Qa (Qa (Qa (Q9 ?_)));show wpAny _ _ (Builtin.SmallTypes.nextOf (.ref i1) >>= _) _ _ _;refine Qa (wpAny_nextOf_list_end hh (h1.extBut hs₁.extBut D.i1z) (hl.extBut hs₁.extBut D.lz) hv λh₂ e hs₂ he=>?_);exact fin h₂ e (λc o c1 c3 x=>hs₂ _ _ c3 (hs₁.extBut _ _ c1 x)) he
 | true =>
 simp only[show (Value.bool true != Value.bool true)=false from rfl,QE,Xs];refine Qf ?_;simp only[QE,Xs,List.forIn_toArray,List.forIn_cons,List.forIn_nil];refine Qa (Qa (Qa (Q9 ?_)));show wpAny _ _ (Builtin.SmallTypes.nextOf (.ref i1) >>= _) _ _ _;refine Qa (wpAny_nextOf_list_end hh h1 hl hv λh₂ e hs₂ he=>?_);exact fin h₂ e (λc o c1 c3 x=>hs₂ _ _ c3 x) he
end
theorem gO:mroOf (.type "dict")=pure [.type "dict", .type "object"]:=by rw[mroOf_type];kernel_rfl
theorem gg:typeLookup (.type "dict") "__new__" = pure (some (.builtin "dict.__new__")):=by rw[typeLookup_type,builtinLookup_eq_fast];kernel_rfl
theorem lO:TypeCalled "dict" "dict.__new__" "dict.__init__" :=
 ⟨by decide +kernel,by decide +kernel,⟨_,_,gO⟩,madeBy_type gO gg (by decide +kernel),by decide +kernel,by rw[isSubtype_type];kernel_rfl,F.slot_dict_init⟩
theorem ga (a:Value):checkTypeCall "dict" ⟨[a],[]⟩=pure ():=by kernel_rfl
theorem gN (a:Value):checkBuiltinCall "dict.__new__" ⟨[.type "dict", a],[]⟩=pure ():=by kernel_rfl
theorem g_:entryFor table "dict.__new__" = some Builtin.«dict.__new__»:=entryFor_of_tree (by kernel_rfl)
theorem gI:plainId "dict.__new__" = true:=by decide +kernel
theorem qH:isSubtype (.type "dict") (.type "dict")=pure true:=by rw[isSubtype_type];kernel_rfl
theorem i4:entryFor table "dict.update.loop" = some Builtin.«dict.update.loop»:=entryFor_of_tree (by kernel_rfl)
theorem eE:plainId "dict.update.loop" = true:=by decide +kernel
structure ApartD (z TI TO i1 i2 l d:Addr):Prop extends Apart5 z TI TO i1 i2 l where
 dz:d≠z
 dTI:d≠TI
 dTO:d≠TO
 di1:d≠i1
 di2:d≠i2
 dl:d≠l
structure ZS (h:Heap) (z TI TO i1 i2 l d:Addr) (ty:String) (x:Str) (t:Tok) (xs:Array Value) (k:Nat):Prop where
 zf:(IsZ h z TI TO .none false/\∃a b,IsPair h TO a b)\/∃(T:Addr) (f1:Bool) (oT:Obj),IsZ h z TI TO (rawInt (T:Nat)) f1/\h.get? T=some oT/\T≠z/\T≠i1/\T≠i2/\T≠d
 ti:IsPair h TI (.ref i1) (.ref i2)
 a1:h.IsListIter i1 l k
 a2:h.IsStrIter i2 ty x t k
 li:h.IsList l xs
section
variable {prog:Program} {w:World} {K:Type} [DecidableEq K] {knd:KeyKind prog w K} {A:Around} {R:Result->Shared->Prop}
def eD (kvs:List (K × Value)) (ps:List (K × Value)):List (K × Value):=ps.foldl (λacc p=>stored acc p.1 p.2) kvs
theorem mi (kvs:List (K × Value)) (k:K) (v:Value):(stored kvs k v).length<=kvs.length+1:=by
 unfold stored
 split
 ·rw[Qd];exact xH
 rw[Qn];simp
variable {Q E:A0}
theorem iz {s:Shared} (a:Value) (h:Q (.ref s.heap.objs.size) { s with heap:=s.heap.push { cls:=.type "dict", data:=.dict #[] } }) :
  codeAny (model prog w) A (.call (.builtin "dict.__new__") ⟨[.type "dict", a],[]⟩) (wants Q E) s:=by
 refine codeAny_call_builtin gI g_ (wpAny_of_eq (gN a) ?_);have hsub:=qH;have hmro:=gO;obtain⟨hp,g,d,tk,os⟩:=s;unfold Builtin.«dict.__new__»
 wp_walk
 exact h
end
end LZ
namespace L2
open PySem PySem.Spec PyProof.Rows
def cA (kvs:List (Key × V)):List (Key × V)->List (Key × V)
 | []=>kvs
 | p::r=>cA (bh kvs p.1 p.2) r
theorem sn:∀{qs:List (Key × V)} {ps:List (Key × Value)} {kvs:List (Key × V)} {vs:List (Key × Value)},KV qs ps->KV kvs vs->KV (cA kvs qs) (LZ.eD vs ps)
 | [],_,_,_,h,r=>by cases h;exact r
 | q::qs,p::ps,kvs,vs,h,r=>by
  cases h with
  | cons h1 h2 =>
  show KV (cA (bh kvs q.1 q.2) qs) (LZ.eD (stored vs p.1 p.2) ps);rw[<-h1.1];exact sn h2 (r.put q.1 h1.2)
theorem paired_get {α β:Type} {F:α->β->Prop}:∀{xs:List α} {ys:List β},xs.length=ys.length->(∀(j:Nat) x y,xs[j]?=some x->ys[j]?=some y->F x y)->Paired F xs ys
 | [],[],_,_=>.nil
 | x::xs,y::ys,hl,h=>.cons (h 0 x y rfl rfl) (paired_get (by simpa using hl) λj a b e1 e2=>h (j+1) a b (by simpa using e1) (by simpa using e2))
theorem eP:∀(qs kvs:List (Key × V)),(cA kvs qs).length<=kvs.length+qs.length
 | [],kvs=>Qg _
 | q::qs,kvs=>by
  have h1:=eP qs (bh kvs q.1 q.2);have h2:=bC kvs q.1 q.2;show (cA (bh kvs q.1 q.2) qs).length<=_;rw[Xp];exact xI h1 h2
section
variable {X:Cx} {a b:Expr} {ta:TA} {p1 p2 pos1 pos2:Pos}
end
end L2
namespace LZ
open PySem
section
variable {prog:Program} {w:World} {A:Around} {E:A0} {s:Shared}
theorem ft:typeLookup (.type "list") "__getattr__" = pure none:=by rw[typeLookup_type,builtinLookup_eq_fast];kernel_rfl
theorem gT:typeLookup (.type "list") "keys" = pure none:=by rw[typeLookup_type,builtinLookup_eq_fast];kernel_rfl
theorem dy:entryFor table "list.__getattribute__" = some Builtin.«object.__getattribute__» :=
 entryFor_alias (id' := "object.__getattribute__") (by kernel_rfl) (by decide +kernel) (by decide +kernel) (by kernel_rfl)
theorem gf (a:Addr) (xs:Array Value) (m:Nat) (sl:Array (Option Value)) (u:Tok) :
  Meets (Builtin.«object.__getattribute__» ⟨[.ref a,.str "keys" u],[]⟩) (λA R s=>s.heap.get? a=some { cls:=.type "list", dict:=none,data:=.seq xs m,slots:=sl }/\raisesAttr (.ref a) "keys" A R s) :=
 Meets.of_wp λprog w A R s hs=>by
  obtain⟨hp,g,d,tk,os⟩:=s;obtain⟨hx,hs⟩:=hs;have hT:(⟨hp,g,d,tk,os⟩:Shared).TypeIs (.ref a) "list" := ⟨_,hx,rfl⟩;have hmiss:=gT;have hname:(["__module__", "__name__", "__qualname__", "__doc__", "__annotations__"]:List Str).contains "keys" = false:=by decide +kernel
  unfold Builtin.«object.__getattribute__»
  repeat (any_goals (first|assumption|wp_step))
  try simp only[hname,QE,Xs]
  repeat (any_goals (first|assumption|wp_step))
  exact wpAny_raiseAttrError hs.1 hs.2 (attrMsg_fits (by decide +kernel) (by decide +kernel))
theorem mT {a:Addr} {xs:Array Value} {m:Nat} {sl:Array (Option Value)} {Q:Option Value->Shared->Prop} (hx:s.heap.get? a=some { cls:=.type "list", dict:=none,data:=.seq xs m,slots:=sl }) (hA:A.handled=none)
  (h:∀h' tk,(∀c o,s.heap.get? c=some o->h'.get? c=some o)->Q none { s with heap:=h',toks:=tk }):wpAny (model prog w) A (getAttr? (.ref a) "keys") Q E s:=by
 obtain⟨hp,g,d,tk,os⟩:=s;have hT:∀tk',(⟨hp,g,d,tk',os⟩:Shared).TypeIs (.ref a) "list" := λ_=>⟨_,hx,rfl⟩;have f1:=sub_AttributeError;have f3:=F.slot_list_getattribute.lookup;have f4:=F.slot_list_getattribute.bind (.ref a);have f5:=ft;unfold getAttr? getAttrBy? getAttrBy
 repeat (any_goals (first|assumption|exact hT _|((with_reducible show wpAny _ _ (call (Value.builtin "list.__getattribute__") _ _) _ _ _);refine call_meets F.slot_list_getattribute (hT _) dy (F.args_list_getattribute_2 _ _) (gf a xs m sl _) ⟨hx,hA,λh' tk' e hx'=>?_⟩)|wp_step))
 obtain⟨t',u',he⟩:=hx'.there;show wpAny _ _ (getattributeRaised _ _ _ _ _ _ _) _ _ _;unfold getattributeRaised
 repeat (any_goals (first|assumption|wp_step))
 all_goals exact h _ _ hx'.keeps
end
section
variable {prog:Program} {w:World} {K:Type} [DecidableEq K] {knd:KeyKind prog w K} {A:Around} {R:Result->Shared->Prop}
def gu (h:Heap) (xs:Array Value) (ka va:Nat->Value) (it d:Addr):Prop:=∀k,k<xs.size->∃(T:Addr) (o:Obj) (n:Nat),xs[k]?=some (.ref T)/\h.get? T=some o/\o.cls=.type "tuple" /\ o.data=.seq #[ka k,va k] n/\T≠it/\T≠d
theorem gu.keep {h h':Heap} {xs:Array Value} {ka va:Nat->Value} {it d:Addr} (p:gu h xs ka va it d) (hk:∀c o,c≠it->c≠d->h.get? c=some o->h'.get? c=some o):gu h' xs ka va it d:=λk hlt =>
 let ⟨T,o,n,e1,e2,e3,e4,e5,e6⟩:=p k hlt;⟨T,o,n,e1,hk T o e5 e6 e2,e3,e4,e5,e6⟩
theorem m9 {it l d:Addr} {xs:Array Value} {ka va:Nat->Value} (nid:d≠it) (nil:l≠it) (ndl:l≠d) (hh:A.handled=none) (ks:Nat->K) (hk:∀k,k<xs.size->knd.is (ks k) (ka k)=true) (hsz:xs.size<=sizeLine) :
  ∀(m k:Nat) (i:Int) (s:Shared) (kvs:List (K × Value)),xs.size-k=m->k<=xs.size->s.heap.IsListIter it l k->s.heap.IsList l xs->gu s.heap xs ka va it d->s.heap.DictOf knd d kvs->kvs.length<=k ->
  (∀h' tk,h'.DictOf knd d (eD kvs ((List.range (xs.size-k)).map λj=>(ks (k+j),va (k+j))))->(∀c o,c≠it->c≠d->s.heap.get? c=some o->h'.get? c=some o)->R (.ok (.ret .none)) { s with heap:=h',toks:=tk }) ->
  codeAny (model prog w) A (.builtin "dict.update.loop" ⟨[.ref d,.ref it,rawInt i,.none],[]⟩) R s:=by
 intro m
 induction m with
 | zero =>
  intro k i s kvs hm hkk hit hl hp hd hkl hR;have hin:k=xs.size:=by exact xG hm hkk
  refine Xy i4 ?_;rw[Xj eE _];show wpAny _ A.in1 (pyNext (.ref it) >>= _) _ _ s;refine Qa (wpAny_pyNext_list_end (show A.in1.handled=none from hh) hit hl (by rw[hin];simp) λh' hkeep=>?_);show wpAny _ _ (Builtin.Dict.addKeywords d [] >>= _) _ _ _;refine Qa (Qf (Qf ?_))
  have hd':h'.DictOf knd d kvs:=by
   obtain⟨o,es,ep,e1,r⟩:=hd;exact⟨o,es,ep,hkeep d o nid e1,r⟩
  refine hR h' s.toks ?_ λc o c1 _ e=>hkeep c o c1 e;rw[hm];exact hd'
 | succ m ih =>
 intro k i s kvs hm hkk hit hl hp hd hkl hR;have hlt:k<xs.size:=by exact xF hm hkk
 obtain⟨T,oT,n,hx,hT,hTc,hTd,nTi,nTd⟩:=hp k hlt;refine Xy i4 ?_;rw[Xj eE _];show wpAny _ A.in1 (pyNext (.ref it) >>= _) _ _ s;refine Qa (wpAny_pyNext_list_item hit hl hx λh1 hit1 hs1=>?_);have k1:∀c o,c≠it->s.heap.get? c=some o->h1.get? c=some o:=λc o n1 e=>hs1.extBut c o n1 e
 have hd1:h1.DictOf knd d kvs:=by
  obtain⟨o,es,ep,e1,r⟩:=hd;exact⟨o,es,ep,k1 d o nid e1,r⟩
 have hT1:=k1 T oT nTi hT;refine Qa (Q9 ?_);have hTy:(Shared.TypeIs { s with heap:=h1 } (.ref T) "tuple"):=⟨_,hT1,hTc⟩;refine Qa (wpAny_tryCatch ?_);unfold Builtin.Dict.pairItems;refine Qa (wpAny_typeOf hTy ?_);rw[Qt (by decide)];refine Qa (Xx hT1 hTd (Qf ?_));show wpAny _ _ (holding [ka k,va k] (dictSet d (ka k) (va k))) _ _ _;refine Q9 (wpAny_dictSet_pairs (hk k hlt) hd1 (λh2 hd2 hs2=>?_) (by exact xE hsz hkl hlt));have k2:∀c o,c≠it->c≠d->s.heap.get? c=some o->h2.get? c=some o:=λc o n1 n2 e=>hs2.extBut c o n2 (k1 c o n1 e);refine Qf ⟨plainId_quiet eE _,ih (k+1) (i+1) _ _ (by exact xD hm hlt) (by exact xC hlt) (hit1.extBut hs2.extBut (Ne.symm nid)) (hl.at λo e=>k2 l o nil ndl e) (hp.keep k2) hd2 (QG (mi _ _ _) (by exact yq hkl)) λh3 tk hd3 hk3=>?_⟩;refine hR h3 tk ?_ λc o c1 c2 e=>hk3 c o c1 c2 (k2 c o c1 c2 e);rw[show xs.size-k=(xs.size-(k+1))+1 from by exact xB hm hlt,List.range_succ_eq_map,Qu,Q0];have e:(List.range (xs.size-(k+1))).map (λj=>(ks (k+1+j),va (k+1+j)))=(List.range (xs.size-(k+1))).map ((λj=>(ks (k+j),va (k+j)))∘Nat.succ):=List.map_congr_left λj _=>by simp[Function.comp,Nat.add_assoc,Nat.add_comm 1]
 rw[e]at hd3;exact hd3
variable {Q E:A0}
theorem ng {s:Shared} {l:Addr} {xs:Array Value} {ka va:Nat->Value} (hh:A.handled=none) (ks:Nat->K) (hk:∀k,k<xs.size->knd.is (ks k) (ka k)=true) (hsz:xs.size<=sizeLine) (hl:PlainL s.heap l xs)
  (hp:∀k,k<xs.size->∃(T:Addr) (o:Obj) (n:Nat),xs[k]?=some (.ref T)/\s.heap.get? T=some o/\o.cls=.type "tuple" /\ o.data=.seq #[ka k,va k] n)
  (h:∀h' tk,h'.DictOf knd s.heap.objs.size (eD [] ((List.range xs.size).map λj=>(ks j,va j)))->(∀c o,s.heap.get? c=some o->h'.get? c=some o)->Q (.ref s.heap.objs.size) { s with heap:=h',toks:=tk }) :
  wpAny (model prog w) A (call (.type "dict") [.ref l]) Q E s:=by
 refine callType_codes (Q₁:=λobj s1=>obj=.ref s.heap.objs.size/\s1={ s with heap:=s.heap.push { cls:=.type "dict", data:=.dict #[] } }) lO (ga _) F.entry_dict_init (iz _ ⟨rfl,rfl⟩) ?_;rintro obj s1 ⟨rfl,rfl⟩;have up:∀c o,s.heap.get? c=some o->(s.heap.push { cls:=.type "dict", data:=.dict #[] }).get? c=some o:=λc o e=>Qb _ e;have hnew:(s.heap.push { cls:=.type "dict", data:=.dict #[] }).DictOf knd s.heap.objs.size []:=Heap.DictOf.new s.heap;have lt:∀{c o},s.heap.get? c=some o->s.heap.objs.size≠c:=λe=>Nat.ne_of_gt (Qp e);obtain⟨⟨c0,d0,dt0,sl0⟩,n0,ho,hoc,hod,hos⟩:=hl;have hoc:c0=.type "list" := hoc;have hod:d0=none:=hod;have hos:dt0=.seq xs n0:=hos;subst hoc hod hos;refine⟨hnew.typeIs,F.args_dict_init_2 _ _,?_⟩;unfold Builtin.«dict.__init__»;refine Qa ?_;unfold Builtin.Dict.selfAndRest;refine Qa (wpAny_notOrdered_dict hnew.typeIs ?_);show wpAny _ _ (pure (s.heap.objs.size,[Value.ref l])) _ _ _;refine Qf ?_;show wpAny _ _ (Builtin.Dict.updateFrom "dict.__init__" s.heap.objs.size (.ref l) [] .none) _ _ _;unfold Builtin.Dict.updateFrom;have hzT:Shared.TypeIs { s with heap:=s.heap.push { cls:=.type "dict", data:=.dict #[] } } (.ref l) "list" := ⟨_,up _ _ ho,rfl⟩;refine Qa (wpAny_typeOf hzT ?_);rw[Qt (by decide)];refine Qa (mT (up _ _ ho) (show A.in1.in1.handled=none from hh) λh3 tk k3=>?_);simp only[Option.isNone_none,if_true];refine Qa (wpAny_rule ?_);have hL3:h3.IsList l xs:=⟨_,k3 _ _ (up _ _ ho),rfl,n0,rfl⟩
 have hd3:h3.DictOf knd s.heap.objs.size []:=by
  obtain⟨o,es,ep,e1,r⟩:=hnew;exact⟨o,es,ep,k3 _ _ e1,r⟩
 obtain⟨od,es,ep,hd3',r3⟩:=id hd3;refine Qa (wpAny_pyIter_list hL3 ?_);refine Qf ⟨plainId_quiet eE _,?_⟩;have up4:∀c o,h3.get? c=some o->(h3.push { cls:=.type "list_iterator", data:=.fields #[.ref l,.int 0 0] }).get? c=some o:=λc o e=>Qb _ e;have lt3:∀{c o},h3.get? c=some o->c≠h3.objs.size:=λe=>QC (Qp e);refine m9 (it:=h3.objs.size) (l:=l) (d:=s.heap.objs.size) (ka:=ka) (va:=va) (lt3 hd3') (lt3 (k3 _ _ (up _ _ ho))) (lt ho).symm (show A.in1.handled=none from hh) ks hk hsz xs.size 0 0 _ [] (by simp) (QP _) ⟨_,Qq _ rfl,rfl,rfl⟩ (hL3.at λo e=>up4 _ o e) (λk hlt=>?_) ⟨od,es,ep,up4 _ _ hd3',r3⟩ (Qg _) λh5 tk5 hd5 hk5=>?_
 ·obtain⟨T,o,n,e1,e2,e3,e4⟩:=hp k hlt;exact⟨T,o,n,e1,up4 _ _ (k3 _ _ (up _ _ e2)),e3,e4,lt3 (k3 _ _ (up _ _ e2)),(lt e2).symm⟩
 refine⟨rfl,h h5 tk5 (by simpa using hd5) λc o e=>hk5 c o (lt3 (k3 _ _ (up _ _ e))) (lt e).symm (up4 _ _ (k3 _ _ (up _ _ e)))⟩
end
end LZ
namespace L2
open PySem PySem.Spec PyProof.Rows
def qk (H:Hp) (v:V) (p:Str × V):Prop:=∃b,v=.ref b/\H b=some (.tup [.str p.1,p.2])
def eS (ps:List (Str × V)):List (Key × V):=ps.map λp=>((Sum.inr p.1:Key),p.2)
section
variable {X:Cx} {a:Expr} {ta:TA} {p1 pos1:Pos}
def nK (K:PySem.W.Frag) (ta:TA):TE:=λU H Q=>ta U H λvs H1=>∃l xs ps,vs=[.ref l]/\SqL K H1 l xs/\xs.length<10000/\Paired (qk H1) xs ps/\∀d,H1 d=none->Q (.ref d) (upd H1 d (.dK (cA [] (eS ps))))
theorem vk {H:Hp}:∀{xs:List V} {ps:List (Str × V)},Paired (qk H) xs ps->∀(j:Nat) x,xs[j]?=some x->∃y,ps[j]?=some y/\qk H x y
 | _,_,.nil=>λj x e=>by simp at e
 | _,_,.cons (a:=a) (b:=b) h t=>λj x e=>by
  cases j with
  | zero=>simp at e;subst e;exact⟨_,rfl,h⟩
  | succ j=>simp at e;obtain⟨y,e',f⟩:=vk t j x e;exact⟨y,by simpa using e',f⟩
theorem rm {H:Hp}:∀{xs:List V} {ps:List (Str × V)},Paired (qk H) xs ps->xs.length=ps.length
 | _,_,.nil=>rfl
 | _,_,.cons h t=>by simp[rm t]
theorem iP (hc:X.calm=true) (hg:Gl X "dict") (hm:X.mg "dict" = none) (ha:PA X [a] ta) (hs:starEach [a] X.env=[(false,eval a X.env)]:=by rfl):PE X (.Call (.Name "dict" p1) [a] [] pos1) (nK X.K ta):=by
 intro pins s U H Q I h;refine Call_ (d8 I hg hm PyProof.Rows.boot_dict (XC (thn (ha pos1 pins s U H _ I h) λus s1 ⟨vs,H1,I1,r1,q1⟩=>?_) hs rfl));obtain⟨l,xs,ps,e,hl,hsm,hpr,q⟩:=q1;subst e;obtain⟨u1,e,ru1⟩:=c9 r1;subst e;cases ru1;obtain⟨its,rv,pl,_⟩:=I1.list hl;have hits:its.length=xs.length:=rv.length.symm;have hps:=rm hpr;have big:10000<sizeLine:=by decide
 have each:∀k,∃g:Value × Value × Str,k<its.length->∃(T:Addr) (o:Obj) (m:Nat) (v:V) (t:Tok),its[k]?=some (.ref T)/\s1.heap.get? T=some o/\o.cls=.type "tuple" /\ o.data=.seq #[g.1,g.2.1] m/\g.1=.str g.2.2 t/\ps[k]?=some (g.2.2,v)/\aI v g.2.1:=λk=>by
  by_cases hk:k<its.length
  ·have hx:xs[k]?=some (xs[k]'(by exact om3 hits hps hk)):=by simp
   obtain⟨y,hy,b,eb,hb⟩:=vk hpr k _ hx;obtain⟨u,hu,ru⟩:=rv.get hx;rw[eb]at ru;cases ru;obtain⟨its2,rv2,⟨o,e1,e2,n,e3⟩,_⟩:=I1.tuple (SqT.of hb);obtain⟨w1,w2,e4,r1,r2⟩:=nC rv2;subst e4;obtain⟨t,et⟩:=r1;subst et;exact⟨(.str y.1 t,w2,y.1),λ_=>⟨b,o,n,y.2,t,hu,e1,e2,e3,rfl,hy,r2⟩⟩
  exact⟨(.none,.none,Str.empty),λh=>absurd h hk⟩
 let g:=λk=>Classical.choose (each k);have hg':∀k,k<its.length->∃(T:Addr) (o:Obj) (m:Nat) (v:V) (t:Tok),its[k]?=some (.ref T)/\s1.heap.get? T=some o/\o.cls=.type "tuple" /\ o.data=.seq #[(g k).1,(g k).2.1] m/\(g k).1=.str (g k).2.2 t/\ps[k]?=some ((g k).2.2,v)/\aI v (g k).2.1:=λk=>Classical.choose_spec (each k);refine LZ.ng (knd:=au X.prog X.w) (l:=l) (xs:=its.toArray) (ka:=λk=>(g k).1) (va:=λk=>(g k).2.1) (I1.ok.hd hc) (λk=>(Sum.inr (g k).2.2:Key)) (λk hk=>?_) (by rw[Qi,hits];omega) pl (λk hk=>?_) λh3 tk hd3 kept=>?_
 ·rw[Qi]at hk;obtain⟨T,o,m,v,t,_,_,_,_,e5,_⟩:=hg' k hk;show (au X.prog X.w).is _ (g k).1=true;rw[e5];exact f7 _ _ _ _
 ·rw[Qi]at hk;obtain⟨T,o,m,v,t,e1,e2,e3,e4,_⟩:=hg' k hk;exact⟨T,o,m,by simpa using e1,e2,e3,e4⟩
 rw[Qi]at hd3
 have kv:KV (eS ps) ((List.range its.length).map λj=>((Sum.inr (g j).2.2:Key),(g j).2.1)):=by
  unfold eS;refine paired_get (by simp[hits,hps]) λj x y e1 e2=>?_;rw[Qs]at e1 e2
  have hj:j<its.length:=by
   cases e:(List.range its.length)[j]? with
   | none=>rw[e]at e2;cases e2
   | some q=>have:=(Qe.mp e).1;simpa using this
  obtain⟨T,o,m,v,t,_,_,_,_,_,e6,e7⟩:=hg' j hj;rw[e6]at e1;rw[List.getElem?_range hj]at e2;cases e1;cases e2;exact⟨rfl,e7⟩
 have hnew:H1 s1.heap.objs.size=none:=I1.hok.fresh (Qg _)
 have I3:Inv X pins U (upd H1 s1.heap.objs.size (.dK (cA [] (eS ps)))) { s1 with heap:=h3,toks:=tk }:=I1.laid kept (Qg _) ⟨by
   have:=eP (eS ps) [];have e:(eS ps).length=ps.length:=by unfold eS;simp
   simp only[List.length_nil]at this
   omega,beq_eq_false_iff_ne.mpr (by
   have:@LT.lt Nat _ sysModules s1.heap.objs.size:=I1.big;intro e;have e':@Eq Nat s1.heap.objs.size sysModules:=e
   omega),_,sn kv .nil,hd3⟩
 exact⟨.ref s1.heap.objs.size,_,I3,rfl,q _ hnew⟩
end
end L2
namespace LS
open PySem PySem.Spec PyProof.Rows
def Led (w:World) (t:SetTable) (n:Nat):Prop:=w.params.followText "set-order" = true\/(t.led=true/\(n≠0->t.plain=false))
def ii (prog:Program) (w:World) (h:Heap) (a:Addr) (S:Str->Bool) (n:Nat):Prop:=∃o es ep t,h.get? a=some o/\o.ExactSet/\o.data=.set es ep t/\ElemsOf (strKind prog w) es.toList/\(∀k,S k=true↔∃e∈es.toList,(strKind prog w).is k e.2=true)/\es.size<scanBound/\t.fits es.size=true/\es.size=n/\Led w t es.size
section
variable {prog:Program} {w:World} {A:Around} {E:A0} {s:Shared} {a:Addr} {S:Str->Bool} {n:Nat}
variable {es' es:Array (Int × Value)}
theorem ii.put {h:Heap} {o:Obj} {ep:Nat} {t:SetTable} (ho:h.get? a=some o) (hex:o.ExactSet) (hd:o.data=.set es ep t) {t':SetTable}
  (hel:ElemsOf (strKind prog w) es'.toList) (hm:∀k,S k=true↔∃e∈es'.toList,(strKind prog w).is k e.2=true) (hb:es'.size<scanBound) (hf:t'.fits es'.size=true) (hn:es'.size=n) (hl:Led w t' es'.size) :
  (h.update a (Obj.putSet es' t')).get? a=some { o with data:=.set es' (ep+1) t' }/\ii prog w (h.update a (Obj.putSet es' t')) a S n:=by
 obtain⟨g,_⟩:=SetOf_store (knd:=strKind prog w) ho hex hd hel hm hb hf;exact⟨g,_,es',ep+1,t',g,hex,rfl,hel,hm,hb,hf,hn,hl⟩
theorem ii.congr {h:Heap} {S':Str->Bool} {m:Nat} (q:ii prog w h a S n) (e:∀k,S k=S' k) (f:n=m):ii prog w h a S' m:=by
 obtain⟨o,es,ep,t,h1,h2,h3,h4,h5,h6,h7,h8,h9⟩:=q;exact⟨o,es,ep,t,h1,h2,h3,h4,λk=>by rw[<-e k];exact h5 k,h6,h7,h8.trans f,h9⟩
abbrev bare (led:Bool):Obj:={ cls:=.type "set", dict:=none,data:=.set #[] 0 (.fresh 0 0 led) }
theorem ii.bare {h:Heap} (g:h.get? a=some (bare !(w.params.followText "set-order"))):ii prog w h a (λ_=>false) 0 :=
 ⟨_,#[],0,_,g,⟨rfl,rfl,rfl⟩,rfl,fun e he=>by simp at he,fun k=>by simp,by decide,rfl,rfl,by
  unfold Led
  cases e:w.params.followText "set-order" with
  | true=>exact .inl rfl
  | false=>exact .inr ⟨rfl,λz=>absurd rfl z⟩⟩
theorem tD (x:Value) {Q₁:A0} (h:Q₁ (.ref s.heap.objs.size) { s with heap:=s.heap.push (LS.bare !(w.params.followText "set-order")) }) :
  codeAny (model prog w) A (.call (.builtin "set.__new__") ⟨[.type "set", x],[]⟩) (wants Q₁ E) s:=by
 refine codeAny_of_tree ?_;show wpAny _ A.in1 (do checkBuiltinCall "set.__new__" ⟨[.type "set", x],[]⟩;again (.builtin "set.__new__" ⟨[.type "set", x],[]⟩)) _ _ s;refine Qa (wpAny_of_eq (F.newCall_set_1 x) (Qf ⟨plainId_quiet F.plain_set_new _,Xy F.entry_set_new ?_⟩));rw[Xj F.plain_set_new _];unfold Builtin.«set.__new__» Builtin.Frozenset.newClass;have hsub:=sub_set_self;obtain⟨hp,g,d,tk,os⟩:=s;dsimp only
 wp_walk
 refine wpAny_askSetting (Qf ?_);dsimp only;simp only[newObj];exact Qa (wpAny_alloc (Qf (Qf h)))
end
theorem b_:Slot "set_iterator" "__next__" "set_iterator.__next__" :=
 .of (owner := "set_iterator") (n := "__next__") (by rw[typeLookup_type,builtinLookup_eq_fast];kernel_rfl) (by decide +kernel) (by decide +kernel) (by decide +kernel)
  (by first|exact .inl (by decide +kernel)|exact .inr (by decide +kernel)) (by rw[isSubtype_type];kernel_rfl)
theorem ff:Slot "set_iterator" "__iter__" "set_iterator.__iter__" :=
 .of (owner := "set_iterator") (n := "__iter__") (by rw[typeLookup_type,builtinLookup_eq_fast];kernel_rfl) (by decide +kernel) (by decide +kernel) (by decide +kernel)
  (by first|exact .inl (by decide +kernel)|exact .inr (by decide +kernel)) (by rw[isSubtype_type];kernel_rfl)
theorem ix:entryFor table "set_iterator.__next__" = some Builtin.«set_iterator.__next__»:=entryFor_of_tree (by kernel_rfl)
theorem iy:entryFor table "set_iterator.__iter__" = some Builtin.«dict_keyiterator.__iter__»:=entryFor_alias (id' := "dict_keyiterator.__iter__") (by kernel_rfl) rfl (by decide +kernel) (by kernel_rfl)
theorem gZ:entryFor table "set.__iter__" = some Builtin.«frozenset.__iter__»:=entryFor_alias (id' := "frozenset.__iter__") (by kernel_rfl) rfl (by decide +kernel) (by kernel_rfl)
theorem kS:Manifest.owners.lookup (String.ofList ['r','o','t','a','r','e','t','i','_','t','e','s'].reverse)=some Manifest.sig_set_iterator:=by kernel_rfl
theorem jW (a:Value):argsOk "set_iterator.__next__" ⟨[a],[]⟩:=by
 unfold argsOk;rw[signature?_of (id := "set_iterator.__next__") (n:=['_','_','t','x','e','n','_','_']) (o:=['r','o','t','a','r','e','t','i','_','t','e','s']) (by kernel_rfl) kS];kernel_rfl
theorem jX (a:Value):argsOk "set_iterator.__iter__" ⟨[a],[]⟩:=by
 unfold argsOk;rw[signature?_of (id := "set_iterator.__iter__") (n:=['_','_','r','e','t','i','_','_']) (o:=['r','o','t','a','r','e','t','i','_','t','e','s']) (by kernel_rfl) kS];kernel_rfl
def eA (h:Heap) (it a:Addr) (first:Value) (i n ep:Nat):Prop:=∃o,h.get? it=some o/\o.cls=.type "set_iterator" /\ o.data=.fields #[first,.int i 0,.ref a,.int n 0,.int ep 0]
def dj (h:Heap) (a:Addr) (es:Array (Int × Value)) (ep:Nat) (t:SetTable):Prop:=∃o,h.get? a=some o/\o.data=.set es ep t/\o.cls=.type "set" /\ t.fits es.size=true
section
variable {prog:Program} {w:World} {A:Around} {E:A0} {s:Shared} {a it:Addr} {es:Array (Int × Value)} {ep:Nat} {t:SetTable} {i:Nat} {first:Value}
variable {n:Nat}
theorem eA.typeIs (h:eA s.heap it a first i n ep):s.TypeIs (.ref it) "set_iterator" := let ⟨o,ho,hc,_⟩:=h;⟨o,ho,hc⟩
theorem eA.at {h h':Heap} (x:eA h it a first i n ep) (e:∀o,h.get? it=some o->h'.get? it=some o):eA h' it a first i n ep:=let ⟨o,ho,r⟩:=x;⟨o,e _ ho,r⟩
theorem dj.at {h h':Heap} (x:dj h a es ep t) (e:∀o,h.get? a=some o->h'.get? a=some o):dj h' a es ep t:=let ⟨o,ho,r⟩:=x;⟨o,e _ ho,r⟩
theorem jL {Q:A0} (hit:eA s.heap it a first i n ep) (h:Q (.ref it) s):wpAny (model prog w) A (pyIter (.ref it)) Q E s:=by
 refine wpAny_pyIter_slot hit.typeIs ff (Q5 ff hit.typeIs iy ?_ (jX _));show wpAny _ _ (ret (.ref it)) _ _ s;exact Qf ⟨_,rfl, "set_iterator", _,hit.typeIs,b_.lookup,h⟩
variable {Q:Option Value->Shared->Prop}
theorem gm (hit:eA s.heap it a first i n ep) (h:wpAny (model prog w) A.in1 (Builtin.«set_iterator.__next__» ⟨[.ref it],[]⟩) (λfin s'=>∃v,fin=Fin.done (Flow.ret v)/\wpAny (model prog w) A (pure (some v)) Q E s')
   (λe s'=>wpAny (model prog w) A (isInstance e (Value.type "StopIteration") >>= λb=>if b=true then pure none else throw e) Q E s') s):wpAny (model prog w) A (pyNext (.ref it)) Q E s :=
 Qa (wpAny_attempt (Xo (name:=Str.ofString "__next__") hit.typeIs b_ (Q5 b_ hit.typeIs ix h (jW _))))
theorem qI {h1:Heap} (hh:A.handled=none) (k:Heap.ExtBut it s.heap h1) (h:∀h',Heap.ExtBut it s.heap h'->Q none { s with heap:=h' }) :
  wpAny (model prog w) A.in1 (newExc (Value.type "StopIteration") [] >>= λe=>raiseNew (α:=Fin) e) (λfin s'=>∃v,fin=Fin.done (Flow.ret v)/\wpAny (model prog w) A (pure (some v)) Q E s')
   (λe s'=>wpAny (model prog w) A (isInstance e (Value.type "StopIteration") >>= λb=>if b=true then pure none else throw e) Q E s') { s with heap:=h1 }:=by
 refine Qa ?_;simp only[newExc,newTuple];refine Qa (XE ?_ (by size_fits));refine Qa (m:=firstArgMember _ _) (wpAny_of_eq (a:=Value.none) (by first|rfl|(simp only[firstArgMember];rfl)) ?_);refine XE ?_ (by size_fits);simp only[raiseNew];refine Qa (wpAny_handled ?_);rw[show A.in1.handled=none from hh];refine Qa (Qf (wpAny_throw ?_));refine Qa (wpAny_isInstance (T := "StopIteration") (b:=true) ⟨_,Qq _ rfl,rfl⟩ isSubtype_stop ?_);exact Qf (h _ ((k.push _).push _))
theorem iV {slot next:Nat} {x:Value} (hit:eA s.heap it a (.int slot 0) i es.size ep) (hs:dj s.heap a es ep t)
  (hw:∀(Q:Option (Value × Nat)->Shared->Prop) (E:A0),Q (some (x,next)) s->wpAny (model prog w) A.in1 (setNext a slot i ep) Q E s)
  (h:∀h',eA h' it a (.int next 0) (i+1) es.size ep->Heap.SameBut it s.heap h'->Q (some x) { s with heap:=h' }):wpAny (model prog w) A (pyNext (.ref it)) Q E s:=by
 obtain⟨o,ho,hc,hd⟩:=id hit;obtain⟨os,hos,hds,_,hf⟩:=id hs;refine gm hit ?_;unfold Builtin.«set_iterator.__next__»;refine Qa (Qf (Qa (wpAny_fieldsOf ho hd ?_)));dsimp only;refine Qa (wpAny_setEntries_of hos hds hf ?_);rw[Qr (by simp)];refine Qa (hw _ _ ?_);dsimp only;refine Qa (wpAny_setField ho hd (by simp) ?_);have h1:=Xe (Obj.mapFields (·.setIfInBounds 0 (rawInt (next:Int)))) ho (Obj.isFreed_of_fields (Xw hd _));have d1:=Xw hd (·.setIfInBounds 0 (rawInt (next:Int)));refine Qa (wpAny_setField h1 d1 (by simp) ?_);refine Qf ⟨_,rfl,Qf (h _ ⟨_,Xe _ h1 (Obj.isFreed_of_fields (Xw d1 _)),(Obj.cls_mapFields ..).trans ((Obj.cls_mapFields ..).trans hc),by rw[Xw d1];simp[rawInt]⟩ ((Xf ..).trans (Xf ..)))⟩
theorem iW {slot:Nat} (hh:A.handled=none) (hit:eA s.heap it a (.int slot 0) i es.size ep) (hs:dj s.heap a es ep t)
  (hw:∀(Q:Option (Value × Nat)->Shared->Prop) (E:A0),Q none s->wpAny (model prog w) A.in1 (setNext a slot i ep) Q E s)
  (h:∀h',Heap.ExtBut it s.heap h'->Q none { s with heap:=h' }):wpAny (model prog w) A (pyNext (.ref it)) Q E s:=by
 obtain⟨o,ho,hc,hd⟩:=id hit;obtain⟨os,hos,hds,_,hf⟩:=id hs;refine gm hit ?_;unfold Builtin.«set_iterator.__next__»;refine Qa (Qf (Qa (wpAny_fieldsOf ho hd ?_)));dsimp only;refine Qa (wpAny_setEntries_of hos hds hf ?_);rw[Qr (by simp)];refine Qa (hw _ _ ?_);dsimp only;refine Qa (wpAny_setField ho hd (by simp) ?_);exact qI hh (Xf ..).extBut h
theorem mZ {tp:Addr} {pl:List Nat} {p:Nat} {e:Int × Value} (hit:eA s.heap it a (.ref tp) i es.size ep) (hs:dj s.heap a es ep t) (ht:s.heap.get? tp=some { cls:=.type "tuple", data:=.seq (pl.map λ(i:Nat)=>rawInt i).toArray })
  (hp:pl[i]?=some p) (he:es[p]?=some e) (h:∀h',eA h' it a (.ref tp) (i+1) es.size ep->Heap.SameBut it s.heap h'->Q (some e.2) { s with heap:=h' }):wpAny (model prog w) A (pyNext (.ref it)) Q E s:=by
 obtain⟨o,ho,hc,hd⟩:=id hit;obtain⟨os,hos,hds,_,hf⟩:=id hs;refine gm hit ?_;unfold Builtin.«set_iterator.__next__»;refine Qa (Qf (Qa (wpAny_fieldsOf ho hd ?_)));dsimp only;refine Qa (wpAny_setEntries_of hos hds hf ?_);rw[Qr (by simp)];refine Qa (Xx ht rfl ?_);dsimp only;rw[show (List.map (λ(i:Nat)=>rawInt (i:Int)) pl).toArray[(i:Int).toNat]?=some (rawInt (p:Int)) by rw[QX,List.getElem?_toArray,Qs,hp];rfl];dsimp only[rawInt];unfold setNextDrawn;refine Qa (Qa (Xq hos hds hf ?_));dsimp only;rw[Qr (by simp),QX,he];refine Qa (Qf (Qf ?_));refine Qa (wpAny_setField ho hd (by simp) ?_);exact Qf ⟨_,rfl,Qf (h _ ⟨_,Xe _ ho (Obj.isFreed_of_fields (Xw hd _)),(Obj.cls_mapFields ..).trans hc,by rw[Xw hd];simp⟩ (Xf ..))⟩
theorem m5 {tp:Addr} {pl:List Nat} (hh:A.handled=none) (hit:eA s.heap it a (.ref tp) i es.size ep) (hs:dj s.heap a es ep t) (ht:s.heap.get? tp=some { cls:=.type "tuple", data:=.seq (pl.map λ(i:Nat)=>rawInt i).toArray })
  (hp:pl[i]?=none) (h:∀h',Heap.ExtBut it s.heap h'->Q none { s with heap:=h' }):wpAny (model prog w) A (pyNext (.ref it)) Q E s:=by
 obtain⟨o,ho,hc,hd⟩:=id hit;obtain⟨os,hos,hds,_,hf⟩:=id hs;refine gm hit ?_;unfold Builtin.«set_iterator.__next__»;refine Qa (Qf (Qa (wpAny_fieldsOf ho hd ?_)));dsimp only;refine Qa (wpAny_setEntries_of hos hds hf ?_);rw[Qr (by simp)];refine Qa (Xx ht rfl ?_);dsimp only;have en:(List.map (λ(i:Nat)=>rawInt (i:Int)) pl).toArray[(i:Int).toNat]?=none:=by rw[QX,List.getElem?_toArray,Qs,hp,Option.map_none]
 rw[en];dsimp only;refine Qa (wpAny_setField ho hd (by simp) ?_);have h1:=Xe (Obj.mapFields (·.setIfInBounds 0 (rawInt 0))) ho (Obj.isFreed_of_fields (Xw hd _));have d1:=Xw hd (·.setIfInBounds 0 (rawInt 0));refine Qa (wpAny_setField h1 d1 (by simp) ?_);have k2:Heap.ExtBut it s.heap ((s.heap.update it (Obj.mapFields (·.setIfInBounds 0 (rawInt 0)))).update it (Obj.mapFields (·.setIfInBounds 2 .none))):=((Xf s.heap it _).trans (Xf _ it _)).extBut;exact qI (s:=s) (it:=it) (h1:=(s.heap.update it (Obj.mapFields (·.setIfInBounds 0 (rawInt 0)))).update it (Obj.mapFields (·.setIfInBounds 2 .none))) hh k2 h
end
end LS
set_option maxHeartbeats 1000000
namespace DR
open PySem PySem.Spec PyProof.Rows
abbrev At (h:Heap) (d:Addr) (es:Array DictEntry) (ep:Nat):Prop:=h.get? d=some { cls:=.type "dict", data:=.dict es ep }
abbrev IAt (h:Heap) (it d:Addr) (i n ep:Nat):Prop:=h.get? it=some { cls:=.type "dict_keyiterator", data:=.fields #[.ref d,.int i 0,.int n 0,.int ep 0] }
theorem xx:(if Builtin.Dict_items.ownsTuple ((Manifest.find? "dict_keyiterator").elim "dict_keyiterator" λx=>x.tpName)=true then 2 else 0)=0:=by rw[find?_eq_fast];kernel_rfl
section
variable {prog:Program} {w:World} {A:Around} {E:A0} {s:Shared} {d it:Addr} {es:Array DictEntry} {ep i:Nat}
theorem iter {Q:A0} (hd:(d==sysModules)=false) (hm:At s.heap d es ep)
  (hQ:Q (.ref s.heap.objs.size) { s with heap:=s.heap.push { cls:=.type "dict_keyiterator", data:=.fields #[.ref d,.int 0 0,.int es.size 0,.int ep 0] } }):wpAny (model prog w) A (pyIter (.ref d)) Q E s:=by
 have hT:s.TypeIs (.ref d) "dict" := ⟨_,hm,rfl⟩;refine wpAny_pyIter_slot hT F.slot_dict_iter (Q5 F.slot_dict_iter hT F.entry_dict_iter ?_ (F.args_dict_iter_1 _));unfold Builtin.«dict.__iter__» Builtin.Dict.dictSlotNone Builtin.Dict.showsAll
 wp_walk
 exact⟨_,rfl, "dict_keyiterator", _,⟨_,Qq _ rfl,rfl⟩,XQ.lookup,hQ⟩
variable {Q:Option Value->Shared->Prop}
theorem nxt (hit:IAt s.heap it d i es.size ep) (hm:At s.heap d es ep) (hi:i<es.size)
  (hQ:∀h',IAt h' it d (i+1) es.size ep->Heap.SameBut it s.heap h'->Q (some es[i].key) { s with heap:=h' }):wpAny (model prog w) A (pyNext (.ref it)) Q E s:=by
 have hT:s.TypeIs (.ref it) "dict_keyiterator" := ⟨_,hit,rfl⟩;refine Qa (wpAny_attempt (Xo (name:=Str.ofString "__next__") hT XQ (Q5 XQ hT F.entry_dict_keyiterator_next ?_ (F.args_dict_keyiterator_next_1 _))));unfold Builtin.«dict_keyiterator.__next__»
 wp_walk
 have e:(if (i:Int)<0 then none else es[(i:Int).toNat]?)=some es[i]:=by rw[Qr (by omega),QX];simp[hi]
 rw[e];dsimp only;have m1:=mroOf_keyiter
 wp_walk
 rw[xx,Qr (by decide +kernel)];exact⟨_,rfl,Qf (hQ _ ((Xe _ hit rfl).trans (by simp[Obj.mapFields,rawInt])) (Xf ..))⟩
theorem stp (hh:A.handled=none) (hit:IAt s.heap it d i es.size ep) (hm:At s.heap d es ep) (hi:es.size<=i)
  (hQ:∀h',Heap.ExtBut it s.heap h'->Q none { s with heap:=h' }):wpAny (model prog w) A (pyNext (.ref it)) Q E s:=by
 have hT:s.TypeIs (.ref it) "dict_keyiterator" := ⟨_,hit,rfl⟩;refine Qa (wpAny_attempt (Xo (name:=Str.ofString "__next__") hT XQ (Q5 XQ hT F.entry_dict_keyiterator_next ?_ (F.args_dict_keyiterator_next_1 _))));unfold Builtin.«dict_keyiterator.__next__»
 wp_walk
 have e:(if (i:Int)<0 then none else es[(i:Int).toNat]?)=none:=by rw[Qr (by omega),QX];simp[hi]
 rw[e];dsimp only;have m1:=mroOf_keyiter;generalize hN:setField=SF
 wp_walk
 subst hN;refine wpAny_setField hit rfl (by rw[xx];simp) ?_;exact LS.qI hh (Xf ..).extBut hQ
theorem self {Q:A0} {n:Nat} (hit:IAt s.heap it d i n ep) (h:Q (.ref it) s):wpAny (model prog w) A (pyIter (.ref it)) Q E s:=wpAny_pyIter_keyiter ⟨_,hit,rfl,rfl⟩ h
theorem u4 (hh:A.handled=none) (I d:Addr) (hne:d≠I) (es:Array DictEntry) (ep:Nat):Walks prog w A I [I,d] [I] es.size (λi v=>∃e,es[i]?=some e/\v=e.key) (λi h=>IAt h I d i es.size ep/\At h d es ep) where
 sub:=λb hb=>by simp at hb;simp[hb]
 frame:=λ_ _ _ st hk=>⟨hk I (by simp) _ st.1,hk d (by simp) _ st.2⟩
 item:=λi s Q E hi st hQ=>nxt st.1 st.2 hi λh' hit' hs'=>hQ _ h' s.toks ⟨es[i],by simp[hi],rfl⟩ ⟨hit',hs'.extBut d _ hne st.2⟩ λb o hb e=>hs'.extBut b o (λh=>hb (by simp[h])) e
 done:=λs Q E st hQ=>stp hh st.1 st.2 (Qg _) λh' he'=>hQ h' s.toks λb o hb e=>he' b o (λh=>hb (by simp[h])) e
 self:=λ_ _ _ _ st hQ=>self st.1 hQ
theorem src (lo:(d==sysModules)=false):PySem.W.KdlSrc prog w "dict" d d es.size (λi v=>∃e,es[i]?=some e/\v=e.key) (λh=>At h d es ep) where
 type:=λ_ hm=>⟨_,hm,rfl⟩
 there:=λ_ h=>⟨Qp h,Qp h⟩
 keep:=λ_ _ hm hk=>hk d (.inl rfl) _ hm
 notList:=by decide
 notTuple:=by decide
 hint:=λ_ _ _ _ hm hq=>PySem.W.kdl_hint_dict ⟨_,hm,rfl⟩ hq
 iter:=λ_ _ hh hm=>⟨_,_,(λ_ _ hq=>iter lo hm hq),u4 hh _ d (QC (Qp hm)) es ep,⟨Qq _ rfl,Qb _ hm⟩⟩
end
end DR
namespace L2
open PySem PySem.Spec PyProof.Rows
variable {H H':Hp}
theorem KIt.inj {x y:Key ⊕ List Key} {v:V} (h1:KIt H x v) (h2:KIt H y v):x=y:=by
 cases x with
 | inl k =>
  cases h1
  cases y with
  | inl j=>rw[sE (show kV k=kV j from h2)]
  | inr js=>obtain⟨c,e,_⟩:=h2;cases k <;> cases e
 | inr ks =>
 obtain⟨c,rfl,h1⟩:=h1
 cases y with
 | inl j=>have e:V.ref c=kV j:=h2;cases j <;> cases e
 | inr js =>
 obtain⟨c2,e,h2⟩:=h2;cases e;rw[h1]at h2;cases jJ (HO.tup.inj (QJ h2));rfl
variable {b a:Addr} {x y:av}
theorem bK.inj (h1:bK H x b) (h2:bK H y b):x=y:=by
 obtain⟨vs,e1,p1⟩:=h1;obtain⟨us,e2,p2⟩:=h2;rw[e1]at e2;cases HO.tup.inj (QJ e2);clear e1 e2
 induction p1 generalizing y with
 | nil=>cases p2;rfl
 | cons q _ ih=>cases p2 with
  | cons q2 t2=>rw[q.inj q2,ih t2]
abbrev KsA (H:Hp) (bs:A3) (ks:List av):Prop:=Paired (λb k=>bK H k b) bs ks
theorem KsA.keeps {bs:A3} {ks:List av} (h:KsA H bs ks) (ht:∀b xs,H b=some (.tup xs)->H' b=some (.tup xs)):KsA H' bs ks:=Paired.mapT h λ_ _ z=>z.keeps ht
open Classical in
noncomputable def cV (H:Hp) (b:Addr):av:=if h:∃k,bK H k b then h.choose else []
theorem nH {k:av} (h:bK H k b):cV H b=k:=by
 unfold cV;rw[dif_pos ⟨k,h⟩];exact(Exists.choose_spec (p:=λk=>bK H k b) ⟨k,h⟩).inj h
theorem KsA.tk {bs:A3} {ks:List av} (h:KsA H bs ks):ks=bs.map (cV H)/\∀b∈bs,bK H (cV H b) b:=by
 induction h with
 | nil=>exact⟨rfl,λb hb=>nomatch hb⟩
 | cons q _ ih =>
 rw[Qu,nH q];refine⟨by rw[<-ih.1],λb hb=>?_⟩;rcases Qh.mp hb with rfl|hb
 ·rw[nH q];exact q
 exact ih.2 b hb
theorem mS {H:Hp}:∀{bs:A3},(∀b∈bs,bK H (cV H b) b)->KsA H bs (bs.map (cV H))
 | [],_=>.nil
 | b::bs,h=>.cons (h b (by simp)) (mS λc hc=>h c (Qo _ hc))
theorem fL:∀(cs:A3),aO (cs.map V.ref) (cs.map Value.ref)
 | []=>.nil
 | _::cs=>.cons rfl (fL cs)
theorem eV:∀{cs:A3} {us:List Value},aO (cs.map V.ref) us->us=cs.map Value.ref
 | [],_,r=>by
  rw[List.map_nil]at r;cases r;rfl
 | c::cs,_,r=>by
  rw[Qu]at r
  cases r with
  | cons r1 r2=>rw[eV r2,Qu];cases (show _=Value.ref c from r1);rfl
theorem iN {ys:List Value} {l:A3} (h:ys.Perm (l.map Value.ref)):∃l':A3,l'.Perm l/\ys=l'.map Value.ref:=by
 let f:Value->Addr:=λv=>match v with
  | .ref a=>a
  | _=>0
 have e:∀l:A3,(l.map Value.ref).map f=l:=λl=>by rw[Q0];exact List.map_id _
 refine⟨ys.map f,by have:=h.map f;rwa [e]at this,?_⟩;rw[Q0];refine(List.map_id _).symm.trans (List.map_congr_left λv hv=>?_);obtain⟨a,_,rfl⟩:=Qj.mp (h.mem_iff.mp hv);rfl
section
variable {P:Program} {w:World} {H:Hp} {h:Heap} {a:Addr}
theorem jS {kvs:List (av × V)} (ok:HOk P w H h) (e:Rd H a (.dT kvs)):(a==sysModules)=false/\kvs.length<=sizeLine/\∃(es:Array DictEntry) (ep:Nat) (bs:A3),DR.At h a es ep/\es.toList.map (·.key)=bs.map Value.ref/\KsA H bs (kvs.map (·.1)):=by
 obtain⟨z,y,xs,r,o,es,ep,h1,h2,h3,h4,h5⟩:=(show bo P w H h a (.dT kvs) from qY ok e);refine⟨y,z,es,ep,xs.map (·.2.1),?_,by rw[h4,Q0,Q0];rfl,?_⟩
 ·obtain⟨c,d,dt,sl⟩:=o;obtain⟨e1,e2,e3⟩:=h2;dsimp only at e1 e2 e3 h3;subst e1 e2 e3 h3;exact h1
 clear h4 h5 z e
 induction r with
 | nil=>exact .nil
 | cons q _ ih=>exact .cons q.2.1 ih
end
def yB (K:PySem.W.Frag) (H:Hp) (l:Addr) (ks:List av):Prop:=(∃bs:A3,SqL K H l (bs.map V.ref)/\KsA H bs ks)\/∃kvs,Rd H l (.dT kvs)/\kvs.map (·.1)=ks
def tL (b:Bool) (ks:List av):Prop:=(∀x∈ks,∀y∈ks,x.map Tm.sh2=y.map Tm.sh2)/\∀x∈ks,if b=true then ∃k r,x=.inl (.inr k)::r else ∃k r,x=.inr k::r
abbrev leF (x y:av):Prop:=Tm.leK (Tm.flat x) (Tm.flat y)
def ra (K:PySem.W.Frag):List V->Hp->VK->Prop:=λxs H Q=>∃(l:Addr) (ks:List av) (b:Bool),xs=[.ref l]/\yB K H l ks/\tL b ks/\ks.length<64 /\
 ∀(p:Addr) (bs':A3) (ks':List av),H p=none->KsA H bs' ks'->ks'.Perm ks->ks'.Pairwise leF->Q (.ref p) (upd H p (.lst (bs'.map V.ref)))
section
variable {X:Cx}
theorem dJ (hc:X.calm=true) (hu:X.A.units+8<cLine):dR X (.builtin "sorted") (ra X.K):=by
 intro pins s U H xs us Q I r h;obtain⟨l,ks,b,rfl,src,sp,hz,q⟩:=h;obtain⟨u,rfl,ru⟩:=c9 r;cases ru
 have main:∀bs:A3,KsA H bs ks->(∀(A:Around) (E:A0) (R:List Value->Shared->Prop),A.handled=none->(∀h' tk vs,(∀b o,s.heap.get? b=some o->h'.get? b=some o)->s.heap.objs.size<=h'.objs.size->vs=bs.map Value.ref->R vs { s with heap:=h',toks:=tk })->wpAny (model X.prog X.w) A (collect (.ref l)) R E s) ->
   wpAny (model X.prog X.w) X.A (call (.builtin "sorted") [.ref l]) (EP X pins U Q) X.xe s:=λbs ka col=>by
  obtain⟨ek,tk⟩:=ka.tk;have bl:bs.length=ks.length:=by rw[ek,Qd]
  have mem:∀{c},c∈bs->cV H c∈ks:=λhc=>by rw[ek];exact Qj.mpr ⟨_,hc,rfl⟩
  refine Tm.pB (s:=s) (up:=λA=>A.units<cLine) (κ:=λ_=>Tm.lx bs (cV H)) (kd:=tuples' b) (G:=λ_ vs=>vs=bs.map Value.ref) col (I.ok.hd hc) (show X.A.units+1+1<cLine by omega) (λh' vs D k g hD=>?_) (λD h' tk' vs h1 out m k1 g1 k2 hle hD at' p1 p2=>?_)
  ·subst g;refine⟨by rw[Qd,bl];exact hz,Tm.lN (o:=seqObj "list" (bs.map Value.ref).toArray 0) (by rw[hD];exact Qq _ rfl) (λz=>absurd (Value.type.inj z) (by decide)) (λc hc=>?_) ⟨λa ha c hc=>sp.1 _ (mem ha) _ (mem hc),λa ha=>sp.2 _ (mem ha)⟩⟩;exact Tm.bX (cX I.hok (tk c hc)) λb o e _=>Qb _ (k _ _ e)
  subst g1;obtain⟨bs',pm,eo⟩:=iN p1;rw[eo,QY]at p2;have tk':∀b∈bs',bK H (cV H b) b:=λb hb=>tk b (pm.mem_iff.mp hb)
  have so:(bs'.map (cV H)).Pairwise leF:=by
   rw[QY];refine p2.imp_of_mem λ{a c} ha hc hq=>?_;have hq:Tm.lb (((Tm.lx bs (cV H)).keyOf (.ref c)).getD []) (((Tm.lx bs (cV H)).keyOf (.ref a)).getD [])=false:=hq;rw[Tm.fA _ (pm.mem_iff.mp ha),Tm.fA _ (pm.mem_iff.mp hc)]at hq;exact hq
  refine⟨.ref D,_,I.laid (o:=.lst (bs'.map V.ref)) (t':=_) (λb o g=>k2 b o (k1 b o g)) hle ⟨by rw[Qd,pm.length_eq,bl,XH];omega,out.toList,m,by rw[eo];exact fL _,by rw[Array.toArray_toList];exact at'⟩,rfl,q _ bs' _ (I.hok.fresh hle) (mS tk') (by rw[ek];exact pm.map _) so⟩
 rcases src with⟨bs,hl,ka⟩|⟨kvs,rd,ek⟩
 ·obtain⟨its,rv,pl,_⟩:=I.list hl;refine main bs ka λA E R _ hR=>collect_list pl.isList (hR _ _ its (λb o e=>?_) (by rw[Heap.size_update,size_push'];exact XN _) (eV rv)) (by rw[<-rv.length,Qd,Xi ka,XH];omega);exact(Xg _ _ (Nat.ne_of_gt (Qp e))).trans (Qb _ e)
 obtain⟨y,z,es,ep,bs,da,ee,ka⟩:=jS I.hok rd;rw[ek]at ka
 have ez:es.size=ks.length:=by
  have:=congrArg List.length ee;rw[Qd,Qd,Ql]at this;rw[this,Xi ka]
 refine main bs ka λA E R hA hR=>Tm.tw (DR.src (es:=es) (ep:=ep) y) hA da (by rw[ez,XH];omega) λh' tk acc k z it=>hR h' tk acc.toList k z ?_;rw[<-ee];refine List.ext_getElem? λj=>?_;rw[Qs];by_cases hj:j<es.size
 ·have ha:j<acc.size:=by rw[it.1];exact hj
  obtain⟨e,e1,e2⟩:=it.2 j acc[j] (QH ha);rw[Q2,Q2,QH ha,e1,e2];rfl
 rw[QU (by rw[Ql,it.1];omega),QU (by rw[Ql];omega)];rfl
end
def vOf:Value->V
 | .none=>.non
 | .bool b=>.bl b
 | .int i _=>.int i
 | .str x _=>.str x
 | .bytes b _=>.byt b
 | .float b _=>.flt b
 | .ref a=>.ref a
 | .type n=>.ty n
 | _=>.non
theorem jg {x:V} {u:Value} (r:aI x u):vOf u=x:=by
 cases x with
 | int i=>obtain⟨t,rfl⟩:=r;rfl
 | str z=>obtain⟨t,rfl⟩:=r;rfl
 | byt b=>obtain⟨t,rfl⟩:=r;rfl
 | flt b=>obtain⟨t,rfl⟩:=r;rfl
 | _=>cases r;rfl
theorem j8:∀{xs:List V} {us:List Value},aO xs us->us.map vOf=xs
 | _,_,.nil=>rfl
 | _,_,.cons r t=>by rw[Qu,jg r,j8 t]
theorem o7 {xs:List V} {us:List Value} (r:aO xs us) (e:V->Bool):us.any (λu=>e (vOf u))=xs.any e:=by rw[<-j8 r,List.any_map];rfl
section
variable {X:Cx}
theorem EqD.mems {pins:A1} {U:St} {H:Hp} {s:Shared} (I:Inv X pins U H s) {A:Around} (hu:A.units+8<cLine) {x:V} {v:Value} (rx:aI x v) {e:V->Bool}:∀{xs:List V} {us:List Value},aO xs us->(∀y∈xs,EqD X.K H 8 y x (e y))->∀u∈us,SeqAt.EqAt A s u v (e (vOf u))
 | _,_,.nil,_=>λu hu=>by cases hu
 | y::xs,u::us,.cons r t,f=>λu' hu'=>by
  rcases Qh.mp hu' with rfl|hu'
  ·rw[jg r];exact EqD.at I (f y (by simp)) hu r rx
  exact EqD.mems I hu rx t (λy hy=>f y (Qo _ hy)) u' hu'
def v0 (K:PySem.W.Frag) (neg:Bool):R2:=λx y H Q=>∃(p:Addr) (ys:List V) (e:V->Bool),y=.ref p/\(SqL K H p ys\/SqT K H p ys)/\(∀v∈ys,EqD K H 8 v x (e v))/\Q (.bl (if neg then !(ys.any e) else ys.any e)) H
theorem wm (hu:X.A.units+64<cLine):OpR X (compareOp .In) (v0 X.K false):=by
 intro pins s U H x y v u Q I rx ry h;obtain⟨p,xs,e,rfl,hq,f,q⟩:=h;cases ry;have hu':X.A.in1.units+8<cLine:=show X.A.units+1+8<cLine by omega
 rcases hq with hq|hq
 ·obtain⟨its,r,pl,hz⟩:=I.list hq;refine SeqAt.in_listAt (λu=>e (vOf u)) pl.isList (λw hw=>EqD.mems I hu' rx r f w (by simpa using hw)) ⟨.bl _,H,I,rfl,?_⟩;rw[show its.toArray.any (λu=>e (vOf u))=its.any (λu=>e (vOf u)) by simp,o7 r];exact q
 obtain⟨its,r,pl,hz⟩:=I.tuple hq;refine SeqAt.in_tupleAt (λu=>e (vOf u)) pl (λw hw=>EqD.mems I hu' rx r f w (by simpa using hw)) ⟨.bl _,H,I,rfl,?_⟩;rw[show its.toArray.any (λu=>e (vOf u))=its.any (λu=>e (vOf u)) by simp,o7 r];exact q
def oi (K:PySem.W.Frag):V->List V->Hp->VK->Prop:=λx vs H Q=>∃(l:Addr) (ys:List V) (y:V) (e:V->Bool) (j:Nat) (z:V),x=.ref l/\vs=[y]/\SqL K H l ys/\(∀v∈ys,EqD K H 8 v y (e v))/\ys[j]?=some z/\e z=true/\(∀m v,m<j->ys[m]?=some v->e v=false)/\Q (.int j) H
theorem cQ (hu:X.A.units+64<cLine):MtR X "list.index" (oi X.K):=by
 intro pins s U H x vs v us Q I rx rv h;obtain⟨l,ys,y,e,j,z,rfl,rfl,hl,f,hj,ez,no,q⟩:=h;cases rx;obtain⟨u,rfl,ru⟩:=c9 rv;obtain⟨its,r,pl,hz⟩:=I.list hl;obtain⟨o,ho,hc,n,hd⟩:=pl.isList;obtain⟨ocls,odict,odata,oslots⟩:=o;dsimp only at hc hd;subst hc hd;have hu':X.A.in1.units+8<cLine:=show X.A.units+1+8<cLine by omega
 obtain⟨w1,hw1,rw1⟩:=r.get hj;have hjl:=(Qe.mp hw1).1
 have at_:∀m (hm:m<its.toArray.size),∃v,ys[m]?=some v/\vOf its.toArray[m]=v:=λm hm=>by
  have hm:m<its.length:=by simpa using hm
  have hm2:m<ys.length:=by rw[r.length];exact hm
  obtain⟨w,hw,rw'⟩:=r.get (Qc hm2);rw[Qc hm]at hw;cases hw;exact⟨_,Qc hm2,jg rw'⟩
 refine call_meets F.slot_list_index ⟨_,ho,rfl⟩ F.entry_list_index (F.args_list_index_2 _ _) (SeqAt.list_indexAt l its.toArray n odict oslots u (λu=>e (vOf u)) j (by simpa using hjl) ?_ ?_ (λm hm hmj=>?_)) ⟨ho,?_,?_⟩
 ·rw[XH]at hz;have:=(Qe.mp hj).1;omega
 ·obtain⟨v,hv,ev⟩:=at_ j (by simpa using hjl);rw[hj]at hv;cases hv;rw[ev];exact ez
 ·obtain⟨v,hv,ev⟩:=at_ m hm;rw[ev];exact no m v hmj hv
 ·exact λw hw=>EqD.mems I hu' ru r f w (by simpa using hw)
 exact⟨.int j,H,I.tok _,⟨_,rfl⟩,q⟩
end
theorem oS (a b:Key) (h:Tm.sh1 a=Tm.sh1 b):eqV (kV a) (kV b)=decide (a=b):=by
 cases a with
 | inl i=>cases b with
  | inl j=>rw[sy];rfl
  | inr y=>cases h
 | inr x=>cases b with
  | inl j=>cases h
  | inr y =>
   rw[sx];show (x==y)=_;by_cases e:x=y
   ·subst e;simp
   rw[Qv e];exact beq_eq_false_iff_ne.mpr e
theorem gr (k:Key):cu (kV k)=true:=by cases k <;> rfl
variable {n ep:Nat}
theorem uK {K:PySem.W.Frag} {x y:List Key} (ha:H a=some (.tup (x.map kV))) (hb:H b=some (.tup (y.map kV))) (e:x.map Tm.sh1=y.map Tm.sh1):EqD K H (n+1) (.ref a) (.ref b) (decide (x=y)):=by
 have len:x.length=y.length:=by have:=congrArg List.length e;simpa using this
 by_cases c:a=b
 ·subst c;rw[ha]at hb;cases jJ (HO.tup.inj (QJ hb));rw[Qx rfl];exact .same
 have q:=EqD.tups (K:=K) (n:=n) (e:=λj=>decide (x[j]?=y[j]?)) (SqT.of ha) (SqT.of hb) (λj u v e1 e2=>?_) c
 ·have:((List.range (min (x.map kV).length (y.map kV).length)).all (λj=>decide (x[j]?=y[j]?))&&(x.map kV).length==(y.map kV).length)=decide (x=y):=by
   rw[Qd,Qd,len,Nat.min_self,beq_self_eq_true,Bool.and_true,Bool.eq_iff_iff,Q7,decide_eq_true_iff]
   constructor
   ·intro h;refine List.ext_getElem? λj=>?_;by_cases hj:j<y.length
    ·exact XD (h j (Xm.mpr hj))
    rw[QU (by omega),QU (by omega)]
   rintro rfl j _;simp
  rw[this]at q;exact q
 rw[Qs]at e1 e2;obtain⟨k1,h1,rfl⟩:=Xv.mp e1;obtain⟨k2,h2,rfl⟩:=Xv.mp e2;have s:=congrArg (·[j]?) e;simp only[Qs,h1,h2]at s;have s:Tm.sh1 k1=Tm.sh1 k2:=QJ s;rw[h1,h2,show decide (some k1=some k2)=decide (k1=k2) by simp,<-oS _ _ s];exact .flat (gr _) (gr _)
theorem gU {H:Hp}:∀{k:av} {vs:List V} {j:Nat} {v:V},Paired (KIt H) k vs->vs[j]?=some v->∃x,k[j]?=some x/\KIt H x v
 | _,_,_,_,.nil,e=>by simp at e
 | _,_,0,_,.cons r _,e=>by simp at e;subst e;exact⟨_,rfl,r⟩
 | _,_,j+1,_,.cons _ t,e=>by obtain⟨x,h1,h2⟩:=gU (j:=j) t (by simpa using e);exact⟨x,by simpa using h1,h2⟩
theorem wJ {K:PySem.W.Frag} {k1 k2:Key ⊕ List Key} {u v:V} (r1:KIt H k1 u) (r2:KIt H k2 v) (s:Tm.sh2 k1=Tm.sh2 k2):EqD K H (n+1) u v (decide (k1=k2)):=by
 cases k1 with
 | inl k1=>cases k2 with
  | inr _=>cases s
  | inl k2 =>
   cases r1;cases r2;have s:Tm.sh1 k1=Tm.sh1 k2:=Sum.inl.inj s;rw[show decide ((Sum.inl k1:Key ⊕ List Key)=Sum.inl k2)=decide (k1=k2) by simp,<-oS _ _ s];exact .flat (gr _) (gr _)
 | inr k1=>cases k2 with
  | inl _=>cases s
  | inr k2 =>
   obtain⟨c1,rfl,r1⟩:=r1;obtain⟨c2,rfl,r2⟩:=r2;have s:k1.map Tm.sh1=k2.map Tm.sh1:=Sum.inr.inj s;rw[show decide ((Sum.inr k1:Key ⊕ List Key)=Sum.inr k2)=decide (k1=k2) by simp];exact uK r1 r2 s
theorem tJ (len:x.length=y.length):((List.range y.length).all λj=>decide (x[j]?=y[j]?))=decide (x=y):=by
 rw[Bool.eq_iff_iff,Q7,decide_eq_true_iff]
 constructor
 ·intro h;refine List.ext_getElem? λj=>?_;by_cases hj:j<y.length
  ·exact XD (h j (Xm.mpr hj))
  rw[QU (by omega),QU (by omega)]
 rintro rfl j _;simp
theorem sF {K:PySem.W.Frag} {vs us:List V} (p1:Paired (KIt H) x vs) (p2:Paired (KIt H) y us) (e:x.map Tm.sh2=y.map Tm.sh2) (j:Nat) (u v:V) (e1:vs[j]?=some u) (e2:us[j]?=some v):EqD K H (n+1) u v (decide (x[j]?=y[j]?)):=by
 obtain⟨k1,g1,r1⟩:=gU p1 e1;obtain⟨k2,g2,r2⟩:=gU p2 e2;have s:=congrArg (·[j]?) e;simp only[Qs,g1,g2]at s;rw[g1,g2,show decide (some k1=some k2)=decide (k1=k2) by simp];exact wJ r1 r2 (QJ s)
theorem wI {K:PySem.W.Frag} (ha:bK H x a) (hb:bK H y b) (e:x.map Tm.sh2=y.map Tm.sh2):EqD K H (n+2) (.ref a) (.ref b) (decide (x=y)):=by
 have len:x.length=y.length:=by have:=congrArg List.length e;simpa using this
 by_cases c:a=b
 ·subst c;rw[ha.inj hb,Qx rfl];exact .same
 obtain⟨vs,h1,p1⟩:=ha;obtain⟨us,h2,p2⟩:=hb;have l1:=Xi p1;have l2:=Xi p2;have q:=EqD.tups (K:=K) (n:=n+1) (e:=λj=>decide (x[j]?=y[j]?)) (SqT.of h1) (SqT.of h2) (sF p1 p2 e) c;rwa [<-l1,<-l2,len,Nat.min_self,beq_self_eq_true,Bool.and_true,tJ len]at q
theorem xX {K:PySem.W.Frag} {neg:Bool} {Q:VK} (ha:bK H x a) (hb:bK H y b) (e:x.map Tm.sh2=y.map Tm.sh2) (q:Q (.bl (if neg=true then !decide (x=y) else decide (x=y))) H):re K neg (.ref a) (.ref b) H Q:=by
 have len:x.length=y.length:=by have:=congrArg List.length e;simpa using this
 obtain⟨vs,h1,p1⟩:=ha;obtain⟨us,h2,p2⟩:=hb;have l1:=Xi p1;have l2:=Xi p2;refine⟨a,b,vs,us,λj=>decide (x[j]?=y[j]?),rfl,rfl,SqT.of h1,SqT.of h2,sF p1 p2 e,?_⟩;rw[<-l1,<-l2,len,Nat.min_self,beq_self_eq_true,Bool.and_true,tJ len];exact q
def tM (a:Addr) (o:Obj) (kvs:List (av × V)):It :=
 ⟨λi H=>H a=some (.frz o (.dT kvs))/\i<kvs.length,λi H x H'=>H'=H/\∃k v b,kvs[i]?=some (k,v)/\x=.ref b/\bK H k b,λi H=>H a=some (.frz o (.dT kvs))/\kvs.length<=i⟩
theorem jQ {X:Cx} {pins:A1} {U:St} {s:Shared} {o:Obj} {es:Array DictEntry} {kvs:List (av × V)} (I:Inv X pins U H s) (h:H a=some (.frz o (.dT kvs))) (hd:o={ cls:=.type "dict", data:=.dict es ep }) :
  (a==sysModules)=false/\DR.At s.heap a es ep/\es.size=kvs.length/\∃bs:A3,es.toList.map (·.key)=bs.map Value.ref/\KsA H bs (kvs.map (·.1)):=by
 obtain⟨y,z,es',ep',bs,e1,e2,e3⟩:=jS I.hok (.inr ⟨o,h⟩);obtain⟨e4,_⟩:=I.hok a _ h;rw[e1,hd]at e4;cases e4;have:=congrArg List.length e2;rw[Qd,Qd,Ql,Xi e3,Qd]at this;exact⟨y,e1,this,bs,e2,e3⟩
theorem oJ {H:Hp}:∀{bs:A3} {ks:List av} {i:Nat} {k:av},KsA H bs ks->ks[i]?=some k->∃b,bs[i]?=some b/\bK H k b
 | _,_,_,_,.nil,e=>by simp at e
 | _,_,0,_,.cons r _,e=>by simp at e;subst e;exact⟨_,rfl,r⟩
 | _,_,i+1,_,.cons _ t,e=>by obtain⟨b,h1,h2⟩:=oJ (i:=i) t (by simpa using e);exact⟨b,by simpa using h1,h2⟩
theorem mf {P:Program} {w:World} {K:PySem.W.Frag} {tg:Expr} (a it:Addr) (o:Obj) (kvs:List (av × V)) (es:Array DictEntry) (ep:Nat) (hd:o={ cls:=.type "dict", data:=.dict es ep }):Turn P w K tg (tM a o kvs) [it] it (λi h=>DR.IAt h it a i kvs.length ep) where
 mem:=by simp
 obj:=λi h st b hb=>by
  have e:b=it:=by simpa using hb
  subst e;exact⟨_,st,λv z=>nomatch z⟩
 keep:=λi h h' st k=>k it (by simp) _ st
 item:=by
  intro X hP hw hK hc i pins s U H E I hf st hg;subst hP hw hK;obtain⟨hz,hi⟩:=hg;obtain⟨_,da,ez,bs,e2,e3⟩:=jQ I hz hd;obtain⟨⟨k,v⟩,hx⟩:∃p,kvs[i]?=some p:=⟨kvs[i],by simp[hi]⟩;obtain⟨b,hb,tb⟩:=oJ (i:=i) (k:=k) e3 (by rw[Qs,hx];rfl);have hi':i<es.size:=by omega
  have hk:es[i].key=.ref b:=by
   have e:=congrArg (·[i]?) e2;simp only[Qs,hb,Q2,QH hi']at e;exact QJ e
  obtain⟨f0,f1,f2,f3,f4,f5⟩:=hf it (by simp);have st0:=st;rw[<-ez]at st0;refine DR.nxt st0 da hi' λh' st' sb=>?_;have I1:Inv X pins U H { s with heap:=h' }:=I.turned (t':=s.toks) (λb o hb e=>(sb.2 b hb).trans e) f0 f1 f3 f4 f5;rw[ez]at st';rw[hk];exact⟨.ref b,rfl,oO (s:={ s with heap:=h' }) st' rfl rfl (by decide) ⟨.ref b,H,I1,rfl,⟨rfl,k,v,b,hx,rfl,tb⟩,st',λb hb=>(hf b hb).1⟩⟩
 done:=by
  intro X hP hw hK hc i pins s U H E I hf st hg;subst hP hw hK;obtain⟨hz,hi⟩:=hg;obtain⟨_,da,ez,bs,e2,e3⟩:=jQ I hz hd;obtain⟨f0,f1,f2,f3,f4,f5⟩:=hf it (by simp);rw[<-ez]at st;exact DR.stp (I.ok.hd hc) st da (by omega) λh' eb=>⟨rfl,I.turned (t':=s.toks) (λb o hb e=>eb b o hb e) f0 f1 f3 f4 f5⟩
 self:=λ_ _ _ _ _ st h=>DR.self st h
def wG (tl:TE):TI:=λU H R=>tl U H λx H1=>∃a o kvs,x=.ref a/\H1 a=some (.frz o (.dT kvs))/\R (tM a o kvs) H1
theorem rn {X:Cx} {tg l:Expr} {tl:TE} (hl:PE X l tl):PI X tg l (wG tl):=by
 intro pins s U H R I h;refine thn (hl pins s U H _ I h) λv s1 ⟨x,H1,I1,r1,q1⟩=>?_;obtain⟨a,o,kvs,e,hz,q⟩:=q1;subst e;cases r1;obtain⟨y,z,es,ep,bs,e1,e2,e3⟩:=jS I1.hok (.inr ⟨o,hz⟩);obtain⟨e4,_⟩:=I1.hok a _ hz;have eo:o={ cls:=.type "dict", data:=.dict es ep }:=QJ (e4.symm.trans e1);obtain⟨_,_,ez,_⟩:=jQ I1 hz eo;refine DR.iter y e1 ?_;refine⟨s1.heap.objs.size,[s1.heap.objs.size],_,_,H1,rfl,I1.kept (t':=s1.toks) λb o e=>Qb _ e,mf a _ o kvs es ep eo,by rw[ez];exact Qq _ rfl,λb hb=>?_,q⟩;have e:b=s1.heap.objs.size:=by simpa using hb
 subst e;exact I1.fpOk (Qg _) (I1.hok.fresh (Qg _))
section
variable {X:Cx}
theorem qh:dR X (.builtin "len") (λxs H Q=>∃a kvs,xs=[V.ref a]/\H a=some (.dT kvs)/\Q (.int kvs.length) H):=by
 intro pins s U H xs us Q I r h;obtain⟨a,kvs,rfl,ha,q⟩:=h;obtain⟨u,rfl,ru⟩:=c9 r;cases ru;obtain⟨y,z,es,ep,bs,da,e2,e3⟩:=jS I.hok (.inl ha);have ez:=congrArg List.length e2;rw[Qd,Qd,Ql,Xi e3,Qd]at ez;have hT:s.TypeIs (.ref a) "dict" := ⟨_,da,rfl⟩;refine Calls.call_function_entry kind_len plain_len entry_len (args_len1 _) ?_;have fit:(es.size:Int)<2 ^ 63:=by rw[ez];rw[XH]at z;omega
 refine Qa (m:=oneArg _ _) (Qf (Qa (Xo (name:=Str.ofString "__len__") hT F.slot_dict_len (Q5 F.slot_dict_len hT F.entry_dict_len ?_ (F.args_dict_len_1 _)))));unfold Builtin.«dict.__len__»
 wp_walk
 refine⟨_,rfl,?_⟩;have n0:¬((es.size:Int)+((0:Nat):Int)<0):=by omega
 have n1:¬((es.size:Int)+((0:Nat):Int)>=2 ^ 63):=by omega
 wp_walk
 rw[Qr n1]
 wp_walk
 exact⟨_,rfl,.int kvs.length,H,I.tok _,⟨s.toks+1,by rw[ez];simp⟩,q⟩
def vP (tk tv:TE):TE:=λU H Q=>∀p,H p=none->tk U (upd H p (.dT [])) λx H1=>tv U H1 λy H2=>H2 p=some (.dT [])/\∃b k,x=.ref b/\bK H2 k b/\Q (.ref p) (upd H2 p (.dT [(k,y)]))
theorem rF {k v:Expr} {pos:Pos} {tk tv:TE} (hu:X.A.units+8<cLine) (hk:PE X k tk) (hv:PE X v tv):PE X (.Dict [some k] [v] pos) (vP tk tv):=by
 intro pins s U H Q I q;have hn:=I.hok.fresh (Qg s.heap.objs.size);have I1:=I.laid (a:=s.heap.objs.size) (o:=.dT []) (h':=s.heap.push { cls:=.type "dict", data:=.dict #[] }) (t':=s.toks) (λ_ _ q=>Qb _ q) (Qg _) (lI s.heap I.big);rw[arm_eval_Dict,zip_pairTrees [some k] [v] X.env pos rfl rfl,dictDisplay_pairs (pairTrees [some k] [v] X.env pos) (by simp[pairTrees]) (by simp[pairTrees])];refine Qa (wpAny_standAt ?_);unfold subDict;refine Qa (Qa (wpAny_alloc (Qa (Q9 ?_))));rw[Qt (by simp[pairTrees])];refine Qa (pairTrees_cons_walk (thn (hk pins _ U _ _ I1 (q _ hn)) λu s1 ⟨x,H1,I2,rx,q1⟩=>thn (hv pins s1 U H1 _ I2 q1) λw2 s2 ⟨y,H2,I3,ry,e,b,kk,ex,tb,q2⟩=>pairTrees_nil_walk ?_));subst ex;obtain rfl:u=.ref b:=rx;obtain⟨z,hd,xs,rel,dd⟩:=vE I3.hok e;cases rel;refine Q9 ?_;rw[List.forIn_cons];dsimp only;refine Qa (Qa (Qa (wpAny_dictSet_heap (knd:=bg X.prog X.w) (show X.A.units+1<cLine by omega) (cX I3.hok tb) dd λh' dd' hs=>Qf ?_)));dsimp only;rw[List.forIn_nil];refine Qf (Qf (Qf (Qf ⟨.ref s.heap.objs.size,_,?_,rfl,q2⟩)));obtain⟨q,es,ep,hq,h2,h3,h4,_,h5⟩:=dd';refine fF I3 (by rw[e];exact True.intro) hs ⟨q,hq⟩ ⟨QG (by simp) (show 1<=sizeLine by decide),hd,[(kk,b,w2)],.cons ⟨rfl,tb.keeps λc ys ec=>?_,ry⟩ .nil,q,es,ep,hq,h2,h3,h4,h5⟩;rw[ah (vq ec e (λz=>nomatch z))];exact ec
end
end L2
namespace Ht
open PySem PySem.SetTable
def itn {α:Type} (f:α->α):Nat->α->α
 | 0,x=>x
 | n+1,x=>itn f n (f x)
theorem di {α:Type} (f:α->α):∀(m n:Nat) (x:α),itn f (m+n) x=itn f n (itn f m x)
 | 0,n,x=>by rw[Nat.zero_add];rfl
 | m+1,n,x=>by rw[Nat.succ_add];exact di f m n (f x)
def Msk (m:Nat):Prop:=m=7\/m=31\/m=127
def lp (m i:Nat):Nat:=(i*5+1+0) % (m+1)
variable {m s e j i:Nat}
theorem yy (hm:Msk m):(∀e,e<m+1->∃d,d<m+1/\itn (lp m) d 0=e)/\itn (lp m) (m+1) 0=0:=by
 rcases hm with rfl|rfl|rfl <;> exact⟨by decide +kernel,by decide +kernel⟩
theorem cyc (hm:Msk m) (hs:s<m+1) (he:e<m+1):∃d,d<m+1/\itn (lp m) d s=e:=by
 obtain⟨all,z⟩:=yy hm;obtain⟨a,ha,rfl⟩:=all s hs;obtain⟨b,hb,rfl⟩:=all e he;by_cases c:a<=b
 ·exact⟨b-a,by omega,by rw[<-di];congr 1;omega⟩
 refine⟨b+(m+1)-a,by omega,?_⟩;rw[<-di,show a+(b+(m+1)-a)=(m+1)+b by omega,di,z]
def lps (m:Nat) (x:Nat × Nat):Nat × Nat:=leap m x.1 x.2
theorem oF (m:Nat):∀n x,(itn (lps m) n x).2=x.2 / 32 ^ n
 | 0,x=>by simp[itn]
 | n+1,x=>by
  show (itn (lps m) n (lps m x)).2=_;rw[oF m n];show x.2 / 32 / 32 ^ n=_;rw[Nat.div_div_eq_div_mul,Nat.pow_succ,Nat.mul_comm]
theorem k_ (m:Nat):∀n i,itn (lps m) n (i,0)=(itn (lp m) n i,0)
 | 0,i=>rfl
 | n+1,i=>by
  show itn (lps m) n (lps m (i,0))=_;rw[show lps m (i,0)=(lp m i,0) by simp[lps,leap,lp]];exact k_ m n (lp m i)
theorem r_ {m:Nat}:∀n x,x.1<m+1->(itn (lps m) n x).1<m+1
 | 0,x,h=>h
 | n+1,x,h=>r_ n (lps m x) (Nat.mod_lt _ (Nat.succ_pos _))
theorem vF {x:Nat × Nat} (hm:Msk m) (h1:x.1<m+1) (h2:x.2<2 ^ 64) (he:e<m+1):∃n,n<m+14/\(itn (lps m) n x).1=e:=by
 have z:(itn (lps m) 13 x).2=0:=by rw[oF];exact Nat.div_eq_of_lt (Nat.lt_trans h2 (by decide))
 have l:=r_ (m:=m) 13 x h1;obtain⟨d,hd,ed⟩:=cyc hm l he;refine⟨13+d,by omega,?_⟩;rw[di,show itn (lps m) 13 x=((itn (lps m) 13 x).1,0) from by rw[<-z],k_];exact ed
def adv (m:Nat) (p:Probe):Probe:=if p.more>0 then { p with j:=p.j+1,more:=p.more-1 } else let (i,perturb):=leap m p.i p.perturb;{ p with j:=i,more:=runEnd m i-i,i,perturb }
def beg (m:Nat) (x:Nat × Nat):Probe:={ j:=x.1,more:=runEnd m x.1-x.1,i:=x.1,perturb:=x.2,dummy:=none }
theorem qJ (t:SetTable) (h:Int):t.probeStart h=beg t.mask (bits h % (t.mask+1),bits h):=rfl
theorem vV (m i:Nat):runEnd m i-i<=9:=by unfold runEnd;split <;> omega
theorem jZ (m:Nat):∀(k:Nat) (p:Probe),p.more=k->p.dummy=none->itn (adv m) (k+1) p=beg m (lps m (p.i,p.perturb))
 | 0,p,h,hd=>by
  show adv m p=_;unfold adv;rw[Qr (by omega)];obtain⟨j,more,i,pe,d⟩:=p;dsimp only at hd;subst hd;rfl
 | k+1,p,h,hd=>by
  have e:adv m p={ p with j:=p.j+1,more:=p.more-1 }:=Qt (by omega);show itn (adv m) (k+1) (adv m p)=_;rw[e];exact jZ m k { p with j:=p.j+1,more:=p.more-1 } (by show p.more-1=k;omega) hd
theorem jc (m:Nat):∀(n:Nat) (x:Nat × Nat),∃c,c<=10*n/\itn (adv m) c (beg m x)=beg m (itn (lps m) n x)
 | 0,x=>⟨0,Qg _,rfl⟩
 | n+1,x=>by
  obtain⟨c,hc,e⟩:=jc m n (lps m x);have r:=vV m x.1;refine⟨(beg m x).more+1+c,by show runEnd m x.1-x.1+1+c<=_;omega,?_⟩;rw[di,jZ m _ (beg m x) rfl rfl];exact e
def Emp (m:Nat) (L:Nat->Prop):Nat->Probe->Prop
 | 0,p=>¬L p.j
 | n+1,p=>L p.j/\Emp m L n (adv m p)
theorem sZ {m:Nat} {L:Nat->Prop}:∀(n:Nat) (p:Probe),¬L (itn (adv m) n p).j->∃k,k<=n/\Emp m L k p
 | 0,p,h=>⟨0,Qg _,h⟩
 | n+1,p,h=>by
  by_cases c:L p.j
  ·obtain⟨k,hk,e⟩:=sZ n (adv m p) h;exact⟨k+1,by omega,c,e⟩
  exact⟨0,QP _,c⟩
theorem p8 {L:Nat->Prop} (hm:Msk m) (h:Int) (he:e<m+1) (ne:¬L e):∃n,n<10*turns m/\Emp m L n (beg m (bits h % (m+1),bits h)):=by
 have hb:bits h<2 ^ 64:=by
  unfold bits;have h1:0<=h % (2 ^ 64:Int):=Int.emod_nonneg _ (by decide);have h2:h % (2 ^ 64:Int)<2 ^ 64:=Int.emod_lt_of_pos _ (by decide);omega
 obtain⟨n,hn,ee⟩:=vF (x:=(bits h % (m+1),bits h)) hm (Nat.mod_lt _ (Nat.succ_pos _)) hb he;obtain⟨c,hc,ec⟩:=jc m n (bits h % (m+1),bits h);obtain⟨k,hk,em⟩:=sZ (m:=m) (L:=L) c (beg m (bits h % (m+1),bits h)) (by rw[ec];show ¬L (itn (lps m) n _).1;rw[ee];exact ne);exact⟨k,by unfold turns;omega,em⟩
inductive Rch (m:Nat) (L:Nat->Prop):Probe->Nat->Prop
 | here (p:Probe):Rch m L p p.j
 | step {p:Probe} {j:Nat}:L p.j->Rch m L (adv m p) j->Rch m L p j
theorem Rch.mono {L L':Nat->Prop} (f:∀j,L j->L' j) {p:Probe} (h:Rch m L p j):Rch m L' p j:=by
 induction h with
 | here p=>exact .here p
 | step a _ ih=>exact .step (f _ a) ih
theorem Emp.rch {L:Nat->Prop}:∀{n:Nat} {p:Probe},Emp m L n p->Rch m L p (itn (adv m) n p).j/\¬L (itn (adv m) n p).j
 | 0,p,h=>⟨.here p,h⟩
 | n+1,p,h=>⟨.step h.1 (Emp.rch h.2).1,(Emp.rch h.2).2⟩
def j3 (l:List Nat):Prop:=l.Pairwise (·<·)
variable {l js:List Nat}
theorem j3.lt (r:j3 l) {k:Nat} (h:i<k) (hk:k<l.length):l[i]<l[k]:=List.pairwise_iff_getElem.mp r i k (by omega) hk h
theorem nu {xs:Array Nat} {j:Nat} (r:j3 xs.toList):∀(f lo hi:Nat),lo<=hi->hi<=xs.size->hi-lo<=f->(∀i (h:i<xs.toList.length),i<lo->xs.toList[i]<j)->(∀i (h:i<xs.toList.length),hi<=i->j<=xs.toList[i]) ->
  below.go xs j f lo hi<=xs.size/\(∀i (h:i<xs.toList.length),i<below.go xs j f lo hi->xs.toList[i]<j)/\∀i (h:i<xs.toList.length),below.go xs j f lo hi<=i->j<=xs.toList[i]
 | 0,lo,hi,h1,h2,h3,a,b=>by
  obtain rfl:lo=hi:=by omega
  exact⟨h2,a,b⟩
 | f+1,lo,hi,h1,h2,h3,a,b=>by
  unfold below.go;by_cases c:lo<hi
  ·rw[Qt c];have hz:xs.toList.length=xs.size:=Ql;have hm:(lo+hi) / 2<xs.toList.length:=by omega
   have e:xs.getD ((lo+hi) / 2) j=xs.toList[(lo+hi) / 2]:=by
    have:(lo+hi) / 2<xs.size:=by omega
    simp[Array.getD,this]
   dsimp only;rw[e];by_cases d:xs.toList[(lo+hi) / 2]<j
   ·rw[Qt d];refine nu r f _ hi (by omega) h2 (by omega) (λi h hx=>?_) b;by_cases z:i=(lo+hi) / 2
    ·subst z;exact d
    exact Nat.lt_trans (r.lt (show i<(lo+hi) / 2 by omega) hm) d
   rw[Qr d];refine nu r f lo _ (by omega) (by omega) (by omega) a λi h hx=>?_;by_cases z:i=(lo+hi) / 2
   ·subst z;omega
   have:=r.lt (show (lo+hi) / 2<i by omega) h;omega
  rw[Qr c];obtain rfl:lo=hi:=by omega
  exact⟨h2,a,b⟩
theorem bel {xs:Array Nat} (j:Nat) (r:j3 xs.toList):below xs j<=xs.size/\(∀i (h:i<xs.toList.length),i<below xs j->xs.toList[i]<j)/\∀i (h:i<xs.toList.length),below xs j<=i->j<=xs.toList[i] :=
 nu r _ 0 xs.size (QP _) (Qg _) (by omega) (λi _ h=>absurd h (Nat.not_lt_zero _)) (λi h1 h2=>absurd h1 (by rw[Ql];omega))
theorem fJ {t:SetTable} (r:j3 t.place.toList) (h:t.place.toList[i]?=some j):t.slot j=.live i:=by
 obtain⟨b1,b2,b3⟩:=bel j r;obtain⟨hi,e⟩:=Qe.mp h
 have eb:below t.place j=i:=by
  by_cases c:i<below t.place j
  ·have:=b2 i hi c;omega
  by_cases d:below t.place j<i
  ·have h1:=b3 (below t.place j) (by omega) (Qg _);have h2:=r.lt d hi;omega
  omega
 unfold slot;dsimp only;rw[eb,<-Q2,h];simp
theorem mr {t:SetTable} (hd:t.dummies=#[]) (h:j∉t.place.toList):t.slot j=.empty:=by
 unfold slot;dsimp only
 have n1:(t.place[below t.place j]?==some j)=false:=by
  cases c:t.place[below t.place j]? with
  | none=>rfl
  | some k =>
  have:k∈t.place.toList:=Qk (by rw[Q2];exact c);have:k≠j:=λz=>h (z▸this);simpa using this
 rw[n1,hd];simp[has]
theorem lB {α:Type} (xs:Array α) (p:Nat) (x:α) (h:p<=xs.size):(insertAt xs p x).toList=xs.toList.take p++x::xs.toList.drop p:=by
 unfold insertAt;rw[Array.toList_append,Array.toList_push,Array.toList_extract,Array.toList_extract];simp only[List.extract_eq_take_drop,List.drop_zero,Nat.sub_zero,List.append_assoc,List.singleton_append];congr 2;exact Q4 (by rw[XS,Ql];exact Qg _)
structure Tb (t:SetTable) (hs:List Int):Prop where
 msk:Msk t.mask
 dum:t.dummies=#[]
 len:t.place.toList.length=hs.length
 up:j3 t.place.toList
 bd:∀j∈t.place.toList,j<t.mask+1
 rch:∀q∈t.place.toList.zip hs,Rch t.mask (·∈t.place.toList) (t.probeStart q.2) q.1
variable {hs:List Int}
theorem Tb.fits {t:SetTable} (b:Tb t hs) (h:hs.length<=t.mask):t.fits hs.length=true:=by
 have:=b.len;rw[Ql]at this;simp[SetTable.fits,fill,b.dum,this,h]
theorem oQ {m:Nat} (nd:l.Nodup) (h:l.length<m+1):∃e,e<m+1/\e∉l:=by
 by_cases c:∃e,e<m+1/\e∉l
 ·exact c
 exfalso
 have all:∀e,e∈List.range (m+1)->e∈l:=λe he=>by
  by_cases d:e∈l
  ·exact d
  exact absurd ⟨e,Xm.mp he,d⟩ c
 have le:∀(as bs:List Nat),as.Nodup->(∀x∈as,x∈bs)->as.length<=bs.length:=by
  intro as
  induction as with
  | nil=>intro bs _ _;exact QP _
  | cons a as ih =>
  intro bs nd h;have ha:=h a (by simp);have:=ih (bs.erase a) (QN.mp nd).2 λx hx=>(List.mem_erase_of_ne λe:x=a=>(QN.mp nd).1 (e▸hx)).mpr (h x (Qo _ hx));rw[XO ha]at this;have:=List.length_pos_of_mem ha;simp only[Xp];omega
 have:=le _ l List.nodup_range all;rw[List.length_range]at this;omega
theorem j3.nodup (r:j3 l):l.Nodup:=r.imp λh=>QC h
theorem Tb.put {t:SetTable} {h:Int} (b:Tb t hs) (hj:j<t.mask+1) (nj:j∉t.place.toList) (r:Rch t.mask (·∈t.place.toList) (t.probeStart h) j) :
  ∃p,p=(t.put j).2/\p<=hs.length/\(t.put j).1.mask=t.mask/\(t.put j).1.led=t.led/\(t.put j).1.plain=t.plain/\Tb (t.put j).1 (hs.take p++h::hs.drop p):=by
 obtain⟨b1,b2,b3⟩:=bel j b.up;have lz:t.place.size=hs.length:=by rw[<-Ql];exact b.len
 have nh:has t.dummies j=false:=by rw[b.dum];simp[has]
 refine⟨below t.place j,rfl,by omega,rfl,rfl,rfl,?_⟩;have pl:(t.put j).1.place.toList=t.place.toList.take (below t.place j)++j::t.place.toList.drop (below t.place j):=lB _ _ _ b1
 have mem:∀x,x∈(t.put j).1.place.toList↔x=j\/x∈t.place.toList:=λx=>by
  rw[pl,Qw,Qh]
  conv=>rhs;rw[<-List.take_append_drop (below t.place j) t.place.toList,Qw]
  constructor
  ·rintro(h|h|h)
   ·exact .inr (.inl h)
   ·exact .inl h
   exact .inr (.inr h)
  rintro(h|h|h)
  ·exact .inr (.inl h)
  ·exact .inl h
  exact .inr (.inr h)
 have bl:=b.len;refine⟨b.msk,?_,?_,?_,λx hx=>?_,λq hq=>?_⟩
 ·show (if has t.dummies j=true then _ else t.dummies)=#[];rw[Qr (by rw[nh];simp)];exact b.dum
 ·rw[pl];simp only[Qn,Xp,QO,XS];omega
 ·rw[pl];refine List.pairwise_append.mpr ⟨b.up.sublist (List.take_sublist _ _),List.pairwise_cons.mpr ⟨λx hx=>?_,b.up.sublist (List.drop_sublist _ _)⟩,λx hx y hy=>?_⟩
  ·obtain⟨i,hi,e⟩:=Q8 hx;rw[List.getElem_drop]at e;rw[XS]at hi;have:=b3 (below t.place j+i) (by omega) (by omega);have ne:x≠j:=λz=>nj (z▸List.mem_of_mem_drop hx);omega
  obtain⟨i,hi,e⟩:=Q8 hx;rw[List.getElem_take]at e;rw[QO]at hi;have h1:=b2 i (by omega) (by omega);rcases Qh.mp hy with rfl|hy
  ·omega
  obtain⟨k,hk,e2⟩:=Q8 hy;rw[List.getElem_drop]at e2;rw[XS]at hk;have:=b3 (below t.place j+k) (by omega) (by omega);omega
 ·rcases(mem x).mp hx with rfl|hx
  ·exact hj
  exact b.bd x hx
 have up:∀x,x∈t.place.toList->x∈(t.put j).1.place.toList:=λx hx=>(mem x).mpr (.inr hx);rw[pl,List.zip_append (by rw[QO,QO];omega),List.zip_cons_cons,Qw,Qh]at hq
 have old:∀q,q∈(t.place.toList.take (below t.place j)).zip (hs.take (below t.place j))\/q∈(t.place.toList.drop (below t.place j)).zip (hs.drop (below t.place j))->q∈t.place.toList.zip hs:=λq hq=>by
  rw[<-List.take_append_drop (below t.place j) t.place.toList,<-List.take_append_drop (below t.place j) hs,List.zip_append (by rw[QO,QO];omega),Qw];simpa using hq
 rcases hq with hq|rfl|hq
 ·exact(b.rch q (old q (.inl hq))).mono up
 ·exact r.mono up
 exact(b.rch q (old q (.inr hq))).mono up
theorem my (h:i<m+1):i<=runEnd m i/\runEnd m i<m+1:=by unfold runEnd;split <;> omega
theorem lV {p:Probe} (h:p.more>0):adv m p={ p with j:=p.j+1,more:=p.more-1 }:=Qt h
theorem qW {m:Nat} {L:Nat->Prop}:∀(k:Nat) (p:Probe),k<=p.more->(∀d,d<k->L (p.j+d))->Rch m L p (p.j+k)
 | 0,p,_,_=>.here p
 | k+1,p,h,a=>by
  refine .step (a 0 (by omega)) ?_;rw[lV (by omega),show p.j+(k+1)=p.j+1+k by omega];exact qW k { p with j:=p.j+1,more:=p.more-1 } (by show k<=p.more-1;omega) λd hd=>by have:=a (d+1) (by omega);rw[show p.j+(d+1)=p.j+1+d by omega]at this;exact this
theorem qX {m j:Nat} {L:Nat->Prop}:∀(k:Nat) (p:Probe),p.more=k->p.dummy=none->(∀d,d<=k->L (p.j+d))->Rch m L (beg m (lps m (p.i,p.perturb))) j->Rch m L p j
 | 0,p,h,hd,a,r=>by
  refine .step (a 0 (Qg _)) ?_;have:=jZ m 0 p h hd;rw[show itn (adv m) (0+1) p=adv m p from rfl]at this;rw[this];exact r
 | k+1,p,h,hd,a,r=>by
  refine .step (a 0 (QP _)) ?_;rw[lV (by omega)];exact qX k { p with j:=p.j+1,more:=p.more-1 } (by show p.more-1=k;omega) hd (λd hd=>by have:=a (d+1) (by omega);rw[show p.j+(d+1)=p.j+1+d by omega]at this;exact this) r
def Ln (m:Nat) (owner:Array (Option Nat)) (j:Nat):Prop:=j<m+1/\owner.getD j none≠none
theorem vC {m e:Nat} {owner:Array (Option Nat)} (ho:owner.size=m+1) (he:e<m+1) (ee:owner.getD e none=none):∀(f i per:Nat),i<m+1->(∃n,n<f/\(itn (lps m) n (i,per)).1=e) ->
  ∃j,layClean.free m owner f i per=some j/\j<m+1/\owner.getD j none=none/\Rch m (Ln m owner) (beg m (i,per)) j
 | 0,i,per,hi,⟨n,hn,_⟩=>absurd hn (Nat.not_lt_zero _)
 | f+1,i,per,hi,⟨n,hn,en⟩=>by
  obtain⟨r1,r2⟩:=my hi
  have gd:∀j,j<m+1->owner.getD j (some 0)=owner.getD j none:=λj hj=>by
   have:j<owner.size:=by omega
   simp[Array.getD,this]
  unfold layClean.free
  cases c:(List.range (runEnd m i+1-i)).find? λk=>(owner.getD (i+k) (some 0)).isNone with
  | some k =>
   obtain⟨h1,as,bs,h2,h3⟩:=List.find?_eq_some_iff_append.mp c;have hk:k∈List.range (runEnd m i+1-i):=List.mem_of_find?_eq_some c;rw[Xm]at hk;have kl:i+k<m+1:=by omega
   rw[gd _ kl]at h1;refine⟨i+k,rfl,kl,by simpa using h1,?_⟩;refine qW (m:=m) (L:=Ln m owner) k (beg m (i,per)) (by show k<=runEnd m i-i;omega) λd hd=>?_;have hd2:i+d<m+1:=by omega
   refine⟨hd2,λz=>?_⟩;have z:owner.getD (i+d) none=none:=z
   have mem:d∈as:=by
    have e1:d∈as++k::bs:=by rw[<-h2,Xm];omega
    rcases Qw.mp e1 with q|q
    ·exact q
    exfalso;have sr:(as++k::bs).Pairwise (·<·):=by rw[<-h2];exact List.pairwise_lt_range
    have:=(List.pairwise_cons.mp (List.pairwise_append.mp sr).2.1).1;rcases Qh.mp q with rfl|q
    ·omega
    have:=this d q;omega
   have:=h3 d mem;rw[gd _ hd2,z]at this;simp at this
  | none =>
  have all:∀d,d<=runEnd m i-i->Ln m owner (i+d):=λd hd=>by
   have hd2:i+d<m+1:=by omega
   refine⟨hd2,λz=>?_⟩;have:=List.find?_eq_none.mp c d (Xm.mpr (by omega));rw[gd _ hd2,z]at this;simp at this
  cases n with
  | zero=>exact absurd ee (by have:=all 0 (QP _);rw[show e=i+0 from en.symm];exact this.2)
  | succ n =>
  obtain⟨j,q1,q2,q3,q4⟩:=vC ho he ee f (lps m (i,per)).1 (lps m (i,per)).2 (Nat.mod_lt _ (Nat.succ_pos _)) ⟨n,by omega,en⟩;exact⟨j,q1,q2,q3,qX _ (beg m (i,per)) rfl rfl all q4⟩
structure Lay (m:Nat) (owner:Array (Option Nat)) (js:List Nat) (hs:List Int):Prop where
 sz:owner.size=m+1
 len:js.length=hs.length
 nd:js.Nodup
 bd:∀j∈js,j<m+1
 own:∀j i,j<m+1->(owner.getD j none=some i↔js[i]?=some j)
 rch:∀q∈js.zip hs,Rch m (·∈js) (beg m (bits q.2 % (m+1),bits q.2)) q.1
theorem uP (h:Int):bits h<2 ^ 64:=by
 unfold bits;have h1:0<=h % (2 ^ 64:Int):=Int.emod_nonneg _ (by decide);have h2:h % (2 ^ 64:Int)<2 ^ 64:=Int.emod_lt_of_pos _ (by decide);omega
theorem Lay.more {owner:Array (Option Nat)} (hm:Msk m) (l:Lay m owner js hs) (h:Int) (fw:hs.length<m+1) :
  ∃j,layClean.free m owner (turns m) (bits h % (m+1)) (bits h)=some j/\Lay m (owner.setIfInBounds j (some hs.length)) (js++[j]) (hs++[h]):=by
 obtain⟨e,he,ne⟩:=oQ l.nd (by rw[l.len];exact fw)
 have none_of:∀j,j<m+1->j∉js->owner.getD j none=none:=λj hj nj=>by
  cases c:owner.getD j none with
  | none=>rfl
  | some i=>exact absurd (Qk ((l.own j i hj).mp c)) nj
 obtain⟨n,hn,en⟩:=vF (x:=(bits h % (m+1),bits h)) hm (Nat.mod_lt _ (Nat.succ_pos _)) (uP h) he;obtain⟨j,f1,f2,f3,f4⟩:=vC l.sz he (none_of e he ne) (turns m) (bits h % (m+1)) (bits h) (Nat.mod_lt _ (Nat.succ_pos _)) ⟨n,by unfold turns;omega,en⟩
 have mem_of:∀j,Ln m owner j->j∈js:=λj ⟨a,b⟩=>by
  cases c:owner.getD j none with
  | none=>exact absurd c b
  | some i=>exact Qk ((l.own j i a).mp c)
 have nj:j∉js:=λz=>by
  obtain⟨i,hi,e⟩:=Q8 z;rw[(l.own j i f2).mpr (by rw[Qc hi,e])]at f3;cases f3
 have up:∀x,x∈js->x∈js++[j]:=λx hx=>Q6 _ hx;refine⟨j,f1,by simp[l.sz],by simp[l.len],?_,λx hx=>?_,λx i hx=>?_,λq hq=>?_⟩
 ·exact XF.mpr ⟨l.nd,by simp,λa ha b hb e=>nj (by simp at hb;rw[<-hb,<-e];exact ha)⟩
 ·rcases Qw.mp hx with hx|hx
  ·exact l.bd x hx
  simp at hx;rw[hx];exact f2
 ·have hj:j<owner.size:=by rw[l.sz];exact f2
  have gd:(owner.setIfInBounds j (some hs.length)).getD x none=if j=x then some hs.length else owner.getD x none:=by
   rw[Xh,Array.getElem?_setIfInBounds];by_cases c:j=x
   ·subst c;simp[hj]
   rw[Qr c,Qr c,Xh]
  rw[gd];by_cases c:j=x
  ·subst c;rw[Qt rfl]
   constructor
   ·intro z;cases z;rw[<-l.len,QQ (Qg _)];simp
   intro z;by_cases d:i<js.length
   ·rw[QM d]at z;exact absurd (Qk z) nj
   have:=(Qe.mp z).1;rw[Qn,QT]at this;rw[show i=js.length by omega,l.len]
  rw[Qr c,l.own x i hx];by_cases d:i<js.length
  ·rw[QM d]
  rw[QU (by omega),QQ (by omega)]
  constructor
  ·intro z;cases z
  intro z;have:=Qk z;simp at this;exact absurd this.symm c
 rw[List.zip_append l.len,Qw]at hq;rcases hq with hq|hq
 ·exact(l.rch q hq).mono up
 simp at hq;subst hq;exact(f4.mono mem_of).mono up
theorem lj {m:Nat} (hm:Msk m):∀(more hs:List Int) (owner:Array (Option Nat)) (js:List Nat),Lay m owner js hs->hs.length+more.length<=m+1 ->
  ∃owner' js',more.foldl (λ(acc:Option (Array (Option Nat) × Nat)) h=>do
   let (owner,k) <-acc;let j <-layClean.free m owner (turns m) (bits h % (m+1)) (bits h)
   pure (owner.setIfInBounds j (some k),k+1)) (some (owner,hs.length))=some (owner',(hs++more).length)/\Lay m owner' js' (hs++more)
 | [],hs,owner,js,l,_=>⟨owner,js,by simp,by simpa using l⟩
 | h::more,hs,owner,js,l,z=>by
  rw[Xp]at z;obtain⟨j,e,l'⟩:=l.more hm h (by omega);obtain⟨o',js',e2,l2⟩:=lj hm more (hs++[h]) _ _ l' (by simp;omega);refine⟨o',js',?_,by simpa using l2⟩;rw[List.foldl_cons]
  have st:(do
    let (owner,k) <-some (owner,hs.length);let j <-layClean.free m owner (turns m) (bits h % (m+1)) (bits h)
    pure (owner.setIfInBounds j (some k),k+1):Option (Array (Option Nat) × Nat))=some (owner.setIfInBounds j (some hs.length),(hs++[h]).length):=by
   show (layClean.free m owner (turns m) (bits h % (m+1)) (bits h)).bind _=_;rw[e];simp
  rw[st,e2];simp
theorem pQ (hm:Msk m) (hs:Array Int) (fw:hs.size<=m+1):∃owner js,layClean m hs=some owner/\Lay m owner js hs.toList:=by
 have l0:Lay m (Array.replicate (m+1) none) [] []:=⟨by simp,rfl,List.nodup_nil,λj h=>(nomatch h),λj i hj=>by simp[Array.getD,hj],λq hq=>(nomatch hq)⟩;obtain⟨o,js,e,l⟩:=lj hm hs.toList [] _ _ l0 (by simpa using fw);refine⟨o,js,?_,by simpa using l⟩;unfold layClean;rw[<-Array.foldl_toList];have e':=congrArg (Option.map (·.1)) e;exact e'
theorem rY {α:Type} [DecidableEq α]:∀(as bs:List α),as.Nodup->(∀x∈as,x∈bs)->as.length<=bs.length
 | [],_,_,_=>QP _
 | a::as,bs,nd,h=>by
  have ha:=h a (by simp);have:=rY as (bs.erase a) (QN.mp nd).2 λx hx=>(List.mem_erase_of_ne λe:x=a=>(QN.mp nd).1 (e▸hx)).mpr (h x (Qo _ hx));rw[XO ha]at this;have:=List.length_pos_of_mem ha;simp only[Xp];omega
theorem oE {α:Type} [DecidableEq α]:∀(as bs:List α),as.Nodup->(∀x∈as,x∈bs)->bs.length<=as.length->as.Perm bs
 | [],bs,_,_,h=>by
  obtain rfl:bs=[]:=List.length_eq_zero_iff.mp (by simpa using h);exact .nil
 | a::as,bs,nd,h,z=>by
  obtain⟨n1,n2⟩:=QN.mp nd;have ha:=h a (by simp);have q:=oE as (bs.erase a) n2 (λx hx=>(List.mem_erase_of_ne λ(e:x=a)=>n1 (e▸hx)).mpr (h x (Qo _ hx))) (by rw[XO ha];simp at z;omega);exact(q.cons a).trans (List.perm_cons_erase ha).symm
theorem xM {α:Type} [DecidableEq α] {as bs:List α} (n1:as.Nodup) (n2:bs.Nodup) (h:∀x,x∈as↔x∈bs):as.Perm bs:=oE as bs n1 (λx=>(h x).mp) (rY bs as n2 λx=>(h x).mpr)
theorem xT {α:Type} (hm:Msk m) (es:Array (Int × α)) (fw:es.size<=m+1) (finger moves:Nat) (led plain:Bool):∃t order,laid m finger moves led plain (es.map (·.1))=some (t,order)/\t.mask=m/\t.led=led/\t.plain=plain /\
  (order.filterMap (es[·]?)).toList.Perm es.toList/\Tb t ((order.filterMap (es[·]?)).toList.map (·.1)):=by
 obtain⟨owner,js,e,l⟩:=pQ hm (es.map (·.1)) (by simpa using fw);rw[Array.toList_map]at l;have ll:js.length=es.size:=by have:=l.len;rwa [Qd,Ql]at this
 let live:=(List.range (m+1)).filterMap λj=>(owner.getD j none).map (j,·)
 have mem:∀j i,(j,i)∈live↔j<m+1/\js[i]?=some j:=λj i=>by
  show (j,i)∈(List.range (m+1)).filterMap _↔_;rw[List.mem_filterMap]
  constructor
  ·rintro⟨x,hx,z⟩;obtain⟨y,hy,z⟩:=Xv.mp z;cases z;have hx:=Xm.mp hx;exact⟨hx,(l.own j i hx).mp hy⟩
  rintro⟨h1,h2⟩;exact⟨j,Xm.mpr h1,by rw[(l.own j i h1).mpr h2];rfl⟩
 have f1:live.map (·.1)=(List.range (m+1)).filter λj=>(owner.getD j none).isSome:=by
  show ((List.range (m+1)).filterMap _).map _=_;generalize List.range (m+1)=r
  induction r with
  | nil=>rfl
  | cons x r ih =>
  cases c:owner.getD x none with
  | none=>rw[List.filterMap_cons_none (by rw[c];rfl),ih,List.filter_cons_of_neg (by rw[c];simp)]
  | some i=>rw[List.filterMap_cons_some (by rw[c];rfl),Qu,ih,List.filter_cons_of_pos (by rw[c];rfl)]
 have up:j3 (live.map (·.1)):=by rw[f1];exact List.pairwise_lt_range.sublist List.filter_sublist
 have ms:∀j,j∈live.map (·.1)↔j∈js:=λj=>by
  rw[Qj]
  constructor
  ·rintro⟨⟨x,i⟩,h,rfl⟩;exact Qk ((mem x i).mp h).2
  intro h;obtain⟨i,hi,ei⟩:=Q8 h;exact⟨(j,i),(mem j i).mpr ⟨l.bd j h,by rw[Qc hi,ei]⟩,rfl⟩
 have inj:∀q∈live,∀r∈live,q.2=r.2->q=r:=λ⟨j,i⟩ hq ⟨j',i'⟩ hr z=>by
  cases z;have h1:=((mem j i).mp hq).2;have h2:=((mem j' i).mp hr).2;rw[h1]at h2;cases h2;rfl
 have ndl:live.Nodup:=by
  have:(live.map (·.1)).Nodup:=up.nodup;rw[List.nodup_iff_pairwise_ne,QY]at this;exact List.nodup_iff_pairwise_ne.mpr (this.imp λh z=>h (by rw[z]))
 have nd2:(live.map (·.2)).Nodup:=by
  rw[List.nodup_iff_pairwise_ne]at ndl ⊢;rw[QY];exact ndl.imp_of_mem λha hb ne z=>ne (inj _ ha _ hb z)
 have pr:(live.map (·.2)).Perm (List.range es.size):=xM nd2 List.nodup_range λi=>by
  rw[Qj,Xm]
  constructor
  ·rintro⟨⟨j,k⟩,h,rfl⟩;have:=(Qe.mp ((mem j k).mp h).2).1;show k<_;omega
  intro h;have hi:i<js.length:=by omega
  exact⟨(js[i],i),(mem _ _).mpr ⟨l.bd _ (Xb hi),Qc hi⟩,rfl⟩
 refine⟨{ mask:=m,place:=(live.map (·.1)).toArray,dummies:=#[],finger,led,moves,plain },(live.map (·.2)).toArray,?_,rfl,rfl,rfl,?_,?_⟩
 ·unfold laid;rw[e];rfl
 ·rw[Array.toList_filterMap];refine(pr.filterMap _).trans (.of_eq ?_);refine List.ext_getElem? λi=>?_
  have:∀n k,n<=es.size->((List.range n).filterMap (es[·]?))[k]?=if k<n then es[k]? else none:=by
   intro n
   induction n with
   | zero=>intro k _;simp
   | succ n ih =>
   intro k hn
   have ln:((List.range n).filterMap (es[·]?)).length=n:=by
    have h1:=ih n (by omega);rw[Qr (XV _)]at h1;have h1:=XJ.mp h1;by_cases c:n=0
    ·subst c;rfl
    have h2:=ih (n-1) (by omega);rw[Qt (by omega),QH (show n-1<es.size by omega)]at h2;have:=(Qe.mp h2).1;omega
   rw[List.range_succ,List.filterMap_append,List.filterMap_cons_some (QH (show n<es.size by omega)),List.filterMap_nil];by_cases c:k<n
   ·rw[QM (by omega),ih k (by omega),Qt c,Qt (by omega)]
   rw[QQ (by omega),ln];by_cases d:k=n
   ·subst d;simp <;> omega
   rw[Qr (by omega),QU (by simp;omega)]
  rw[this _ _ (Qg _),Q2]
  split
  ·rfl
  rename_i h;rw[Array.getElem?_eq_none (by omega)]
 have fm:((live.map (·.2)).toArray.filterMap (es[·]?)).toList.map (·.1)=live.map λq=>(es.toList.map (·.1)).getD q.2 0:=by
  rw[Array.toList_filterMap];show ((live.map (·.2)).filterMap (es[·]?)).map (·.1)=_
  have all:∀q∈live,q.2<es.size:=λ⟨j,k⟩ h=>by
   have:=(Qe.mp ((mem j k).mp h).2).1;show k<_;omega
  generalize live=lv at all
  induction lv with
  | nil=>rfl
  | cons q lv ih =>
  have hq:=all q (by simp);rw[Qu,List.filterMap_cons_some (QH hq),Qu,Qu,ih λr hr=>all r (Qo _ hr)];congr 1;rw[Qy,Qs,Q2,QH hq];rfl
 rw[fm];refine⟨hm,rfl,by simp,by simpa using up,λj hj=>?_,λq hq=>?_⟩
 ·have hj:j∈live.map (·.1):=by simpa using hj
  exact l.bd j ((ms j).mp hj)
 have hq:q∈(live.map (·.1)).zip (live.map λq=>(es.toList.map (·.1)).getD q.2 0):=by simpa using hq
 rw[List.zip_map',Qj]at hq;obtain⟨⟨j,i⟩,h1,rfl⟩:=hq;obtain⟨h2,h3⟩:=(mem j i).mp h1;have hi:=(Qe.mp h3).1
 have z:(j,(es.toList.map (·.1)).getD i 0)∈js.zip (es.toList.map (·.1)):=by
  have hz:i<(es.toList.map (·.1)).length:=by rw[<-l.len];exact hi
  refine Qk (i:=i) ?_;rw[List.getElem?_zip_eq_some];exact⟨h3,by rw[Qy,Qc hz];rfl⟩
 refine(l.rch _ z).mono λx hx=>?_;have:=(ms x).mpr hx;simpa using this
end Ht
namespace Ht
open PySem PySem.Spec PyProof.Rows L2 PySem.SetTable
section
variable {prog:Program} {w:World} {A:Around} {E:A0} {s:Shared}
theorem i3 {α:Type} {P:α->Prop} {Q:Option Bool × PUnit->Shared->Prop} {f:α->Option Bool × PUnit->Sem (ForInStep (Option Bool × PUnit))} (l:List α) (hl:∀x∈l,P x)
  (hf:∀x,P x->∀(R:ForInStep (Option Bool × PUnit)->Shared->Prop),R (.yield (none,⟨⟩)) s->wpAny (model prog w) A (f x (none,⟨⟩)) R E s) (h:Q (none,⟨⟩) s):wpAny (model prog w) A (forIn l (none,⟨⟩) f) Q E s:=by
 refine wpAny_forIn_list _ (λrest r s'=>r=(none,⟨⟩)/\s'=s/\∀x∈rest,P x) _ ?_ ?_ _ _ ⟨rfl,rfl,hl⟩
 ·rintro x rest r s' ⟨rfl,rfl,a⟩;exact hf x (a x (by simp)) _ ⟨rfl,rfl,λy hy=>a y (Qo _ hy)⟩
 rintro r s' ⟨rfl,rfl,_⟩;exact h
variable {v:Value}
theorem uu {k:Key} (h:(au prog w).is k v=true):(∃i t,v=.int i t)\/∃x t,v=.str x t:=by
 rcases aE (show dh k v=true from h) with⟨i,t,_,e⟩|⟨x,t,_,e⟩
 ·exact .inl ⟨i,t,e⟩
 exact .inr ⟨x,t,e⟩
variable {vs:List Value}
theorem uz {ks:List Key} (h:ItemsAre (au prog w) ks vs):∀v∈vs,∃k,(au prog w).is k v=true:=by
 induction h with
 | nil=>intro v hv;cases hv
 | cons q _ ih =>
 intro v hv;rcases Qh.mp hv with rfl|hv
 ·exact⟨_,q⟩
 exact ih v hv
theorem sG {h:Heap} {ks:av} (x:TK.Its (au prog w) h ks vs):∀v∈vs,∃k,TK.It (au prog w) h k v:=by
 induction x with
 | nil=>intro v hv;cases hv
 | cons q _ ih =>
 intro v hv;rcases Qh.mp hv with rfl|hv
 ·exact⟨_,q⟩
 exact ih v hv
variable {Q:Bool->Shared->Prop}
theorem iS {k:Key} {d:Nat} (hk:(au prog w).is k v=true) (h:Q false s):wpAny (model prog w) A (ofAClassStatement d v) Q E s:=by
 rcases uu hk with⟨i,t,rfl⟩|⟨x,t,rfl⟩ <;> (unfold ofAClassStatement;exact Qf h)
variable {b:Addr}
theorem iT {o:Obj} {its:Array Value} {n d:Nat} {P:Value->Prop} (ho:s.heap.get? b=some o) (hc:o.cls=.type "tuple") (hd:o.data=.seq its n) (hp:∀v∈its.toList,P v)
  (hf:∀v,P v->∀(R:Bool->Shared->Prop),R false s->wpAny (model prog w) A (ofAClassStatement d v) R E s) (h:Q false s):wpAny (model prog w) A (ofAClassStatement (d+1) (.ref b)) Q E s:=by
 unfold ofAClassStatement;refine Qa (wpAny_typeOf (T := "tuple") ⟨o,ho,hc⟩ ?_);dsimp only;rw[Qt (by decide)];refine Qa (Qf ?_);rw[Qr (by decide)];unfold seqItems?;refine Qa (Qa (wpAny_load ho ?_));rw[hd];refine Qf ?_;dsimp only;refine Qa ?_;rw[<-Array.forIn_toList];refine i3 its.toList hp (λv hv R hR=>Qa (hf v hv _ ?_)) ?_
 ·rw[Qr Qm];exact Qf hR
 exact Qf h
theorem oC {k:av} (hk:TK.IsT (au prog w) s.heap k b) (h:Q false s):wpAny (model prog w) A (ofAClassStatement 8 (.ref b)) Q E s:=by
 obtain⟨o,its,n,h1,h2,h3,h4⟩:=hk;refine iT (d:=7) h1 h2 h3 (sG h4) (λv ⟨k,hv⟩ R hR=>?_) h
 cases k with
 | inl k=>exact iS hv hR
 | inr ks =>
 obtain⟨c,rfl,o,its,n,h1,h2,h3,h4⟩:=hv;exact iT (d:=6) h1 h2 h3 (uz h4) (λv ⟨k,hv⟩ R hR=>iS hv hR) hR
def wO:Key->Bool
 | .inl _=>true
 | .inr _=>false
def byV2:Key ⊕ List Key->Bool
 | .inl k=>wO k
 | .inr ks=>ks.all wO
theorem vG {k:Key} {d:Nat} (hk:(au prog w).is k v=true) (h:Q (wO k) s):wpAny (model prog w) A (hashByValue d v) Q E s:=by
 rcases aE (show dh k v=true from hk) with⟨i,t,rfl,rfl⟩|⟨x,t,rfl,rfl⟩ <;> (unfold hashByValue;exact Qf h)
theorem vH {α:Type} {o:Obj} {its:Array Value} {n d:Nat} {P:α->Value->Prop} {g:α->Bool} {xs:List α} (ho:s.heap.get? b=some o) (hc:o.cls=.type "tuple") (hd:o.data=.seq its n) (hp:Paired P xs its.toList)
  (hf:∀x v,P x v->∀(R:Bool->Shared->Prop),R (g x) s->wpAny (model prog w) A (hashByValue d v) R E s) (h:Q (xs.all g) s):wpAny (model prog w) A (hashByValue (d+1) (.ref b)) Q E s:=by
 unfold hashByValue;refine Qa (wpAny_specialOf (T := "tuple") ⟨o,ho,hc⟩ F.slot_tuple_hash.lookup ?_);dsimp only;unfold seqItems?;refine Qa (Qa (wpAny_load ho ?_));rw[hd];refine Qf ?_;refine Qa ?_;rw[Option.getD_some,<-Array.forIn_toList];refine wpAny_forIn_list _ (λrest r s'=>r.1=none/\s'=s/\∃ys,Paired P ys rest/\xs.all g=ys.all g) _ ?_ ?_ _ _ ⟨rfl,rfl,xs,hp,rfl⟩
 ·rintro x rest r s' ⟨_,rfl,ys,a,e⟩
  cases a with
  | @cons y _ ys _ q t =>
  refine Qa (hf y x q _ ?_);rw[List.all_cons]at e
  cases c:g y with
  | true=>rw[c,Bool.true_and]at e;exact Qf ⟨rfl,rfl,ys,t,e⟩
  | false=>rw[c,Bool.false_and]at e;rw[e]at h;exact Qf (Qf h)
 rintro⟨r1,r2⟩ s' ⟨hr,rfl,ys,a,e⟩;dsimp only at hr;subst hr;cases a;rw[e]at h;exact Qf h
theorem wD {ks:List Key} (h:ItemsAre (au prog w) ks vs):Paired (λk v=>(au prog w).is k v=true) ks vs:=by
 induction h with
 | nil=>exact .nil
 | cons q _ ih=>exact .cons q ih
theorem ux {h:Heap} {ks:av} (x:TK.Its (au prog w) h ks vs):Paired (TK.It (au prog w) h) ks vs:=by
 induction x with
 | nil=>exact .nil
 | cons q _ ih=>exact .cons q ih
theorem byv {k:av} (hk:TK.IsT (au prog w) s.heap k b) (h:Q (k.all byV2) s):wpAny (model prog w) A (hashByValue 8 (.ref b)) Q E s:=by
 obtain⟨o,its,n,h1,h2,h3,h4⟩:=hk;refine vH (d:=7) h1 h2 h3 (ux h4) (λk v hv R hR=>?_) h
 cases k with
 | inl k=>exact vG hv hR
 | inr ks =>
 obtain⟨c,rfl,o,its,n,h1,h2,h3,h4⟩:=hv;exact vH (d:=6) h1 h2 h3 (wD h4) (λk v hv R hR=>vG hv hR) hR
end
theorem vB {t:SetTable} {hs:List Int} {f:Nat->Int} {h:Int} (b:Tb t hs):∀(n:Nat) (p:Probe) (fu:Nat),Emp t.mask (·∈t.place.toList) n p->n<fu->p.dummy=none ->
  (probe.go t f h fu p=some (.empty (itn (adv t.mask) n p).j none)/\∀d,d<n->∀i,t.place.toList[i]?=some (itn (adv t.mask) d p).j->f i≠h) \/
  ∃d i,d<n/\t.place.toList[i]?=some (itn (adv t.mask) d p).j/\f i=h/\probe.go t f h fu p=some (.candidate (itn (adv t.mask) d p).j i (itn (adv t.mask) (d+1) p))/\Emp t.mask (·∈t.place.toList) (n-(d+1)) (itn (adv t.mask) (d+1) p) /\
   (itn (adv t.mask) (d+1) p).dummy=none/\∀d',d'<d->∀i',t.place.toList[i']?=some (itn (adv t.mask) d' p).j->f i'≠h
 | 0,p,fu+1,e,_,hd=>by
  refine .inl ⟨?_,λd hd=>absurd hd (Nat.not_lt_zero _)⟩;unfold probe.go;rw[mr b.dum e];show some (Met.empty p.j p.dummy)=_;rw[hd];rfl
 | n+1,p,fu+1,e,hn,hd=>by
  obtain⟨i,hi,ei⟩:=Q8 e.1;have ei:t.place.toList[i]?=some p.j:=by rw[Qc hi,ei]
  have hd':(adv t.mask p).dummy=none:=by unfold adv;split <;> exact hd
  by_cases c:f i=h
  ·refine .inr ⟨0,i,by omega,ei,c,?_,e.2,hd',λd' hd=>absurd hd (Nat.not_lt_zero _)⟩;unfold probe.go;rw[fJ b.up ei];dsimp only;rw[Qt (by simpa using c)];rfl
  have st:probe.go t f h (fu+1) p=probe.go t f h fu (adv t.mask p):=by
   conv=>lhs;unfold probe.go
   rw[fJ b.up ei];dsimp only;rw[Qr (by simpa using c)];rfl
  have one:∀i',t.place.toList[i']?=some p.j->i'=i:=λi' z=>by
   have:=(List.getElem?_inj hi b.up.nodup).mp (ei.trans z.symm);exact this.symm
  rcases vB b n (adv t.mask p) fu e.2 (by omega) hd' with⟨g1,g2⟩|⟨d,i2,g1,g2,g3,g4,g5,g6,g7⟩
  ·refine .inl ⟨by rw[st];exact g1,λd hd=>?_⟩
   cases d with
   | zero=>intro i' z;rw[one i' z];exact c
   | succ d=>exact g2 d (by omega)
  refine .inr ⟨d+1,i2,by omega,g2,g3,by rw[st];exact g4,by rw[show n+1-(d+1+1)=n-(d+1) by omega];exact g5,g6,λd' hd=>?_⟩
  cases d' with
  | zero=>intro i' z;rw[one i' z];exact c
  | succ d'=>exact g7 d' (by omega)
section
variable {prog:Program} {w:World}
def El (prog:Program) (w:World) (B:Addr->Prop) (h:Heap) (e:Int × Value) (k:av):Prop:=∃b,e.2=.ref b/\TK.IsT (au prog w) h k b/\e.1=(bg prog w).hash k/\B b
abbrev tT (es:Array (Int × Value)) (ep:Nat) (t:SetTable):Obj:={ cls:=.type "set", data:=.set es ep t }
theorem El.at {B:Addr->Prop} {h h':Heap} {a:Addr} {o:Obj} {e:Int × Value} {k:av} (x:El prog w B h e k) (ho:h.get? a=some o) (hc:o.cls≠.type "tuple") (sb:∀b o,b≠a->h.get? b=some o->h'.get? b=some o):El prog w B h' e k:=by
 obtain⟨b,e1,e2,e3⟩:=x;exact⟨b,e1,Tm.bX e2 λc oc hc' hcl=>sb c oc (λz=>by rw[z,ho]at hc';cases hc';exact hc hcl) hc',e3⟩
theorem fE {B:Addr->Prop} {h:Heap}:∀{es:List (Int × Value)} {ks:List av} {i:Nat},Paired (El prog w B h) es ks->∀{e},es[i]?=some e->∃k,ks[i]?=some k/\El prog w B h e k
 | _,_,_,.nil,_,e=>by simp at e
 | _,_,0,.cons r _,_,e=>by simp at e;subst e;exact⟨_,rfl,r⟩
 | _,_,i+1,.cons _ t,_,e=>by obtain⟨k,h1,h2⟩:=fE (i:=i) t (by simpa using e);exact⟨k,by simpa using h1,h2⟩
variable {A:Around} {E:A0} {s:Shared} {a b:Addr} {es:Array (Int × Value)} {ep:Nat} {t:SetTable} {ks:List av} {kx:av}
theorem vK {l:List Value} {Q:Bool->Shared->Prop} (hx:TK.IsT (au prog w) s.heap kx b) (hl:∀v∈l,∃c k,v=.ref c/\TK.IsT (au prog w) s.heap k c) (h:Q false s):wpAny (model prog w) A (searchCouldBeSeen (.ref b) l) Q E s:=by
 unfold searchCouldBeSeen;refine Qa (i3 l hl (λv ⟨c,k,e,hv⟩ R hR=>?_) (Qf h));subst e;dsimp only;refine wpAny_ite_split (λ_=>Qf hR) λ_=>?_;refine Qa (TK.t_quiet hx ?_);rw[Qr (by simp)];refine Qa (TK.t_quiet hv ?_);rw[Qr (by simp)];refine Qa (oC hx ?_);rw[Qr Qm];refine Qa (oC hv ?_);rw[Qr Qm];exact Qf hR
end
section
variable {prog:Program} {w:World} {A:Around} {E:A0} {s:Shared} {a b:Addr} {es:Array (Int × Value)} {ep:Nat} {t:SetTable} {ks:List av} {kx:av} {B:Addr->Prop}
theorem uk {m:Nat} (h:Msk m):m % 2=1:=by rcases h with rfl|rfl|rfl <;> rfl
theorem vT (hu:A.units+1<cLine) (ho:s.heap.get? a=some (tT es ep t)) (b0:Tb t (es.toList.map (·.1))) (fw:es.size<=t.mask) (el:Paired (El prog w B s.heap) es.toList ks) (hx:TK.IsT (au prog w) s.heap kx b) {Q:SetFound->Shared->Prop} :
  ∀(n:Nat) (p:Probe) (fu:Nat) (st:Option Probe),st.getD (t.probeStart ((bg prog w).hash kx))=p->Emp t.mask (·∈t.place.toList) n p->n<fu->n<10*turns t.mask->p.dummy=none ->
   ((∃d i:Nat,d<n/\t.place.toList[i]?=some (itn (adv t.mask) d p).j/\ks[i]?=some kx)/\Q (.there none) s\/kx∉ks/\Q (.free (itn (adv t.mask) n p).j false) s) ->
   wpAny (model prog w) A (setSearchFrom a (.ref b) ((bg prog w).hash kx) true fu st) Q E s:=by
 have hf:t.fits es.size=true:=by have:=b0.fits (by rw[Qd,Ql];exact fw);rwa [Qd,Ql]at this
 have pz:t.place.toList.length=es.toList.length:=by rw[b0.len,Qd]
 have gw:t.gaveWay=false:=by have:=uk b0.msk;simp[gaveWay,this]
 intro n
 induction n using Nat.strongRecOn with
 | _ n ih =>
 intro p fu st est e hn hn2 hd q;obtain⟨fu,rfl⟩:∃f,fu=f+1:=⟨fu-1,by omega⟩;unfold setSearchFrom;refine Qa (Xq ho rfl hf ?_);dsimp only;rw[gw,est];rw[Qr Qm];have go:=vB (f:=λi=>(es[i]?.map (·.1)).getD 0) (h:=(bg prog w).hash kx) b0 n p (10*turns t.mask) e hn2 hd
 have at_:∀(i:Nat) (k:av),ks[i]?=some k->∃(e:Int × Value) (c:Addr),es[i]?=some e/\e.2=.ref c/\TK.IsT (au prog w) s.heap k c/\(es[i]?.map (·.1)).getD 0=(bg prog w).hash k:=λi k hk=>by
  have hi:i<es.toList.length:=by rw[Xi el];exact(Qe.mp hk).1
  obtain⟨k',h1,c,h2,h3,h4⟩:=fE el (Qc hi);rw[hk]at h1;cases h1;rw[Ql]at hi;exact⟨es[i],c,QH hi,h2,h3,by rw[QH hi];exact h4.1⟩
 split
 ·rename_i met hmet
  have hmet:probe.go t (λi=>(es[i]?.map (·.1)).getD 0) ((bg prog w).hash kx) (10*turns t.mask) p=some met:=hmet;rcases go with⟨g1,g2⟩|⟨d,i,g1,g2,g3,g4,g5,g6,g7⟩
  ·rw[g1]at hmet;cases hmet;rcases q with⟨⟨d,i,h1,h2,h3⟩,_⟩|⟨_,q⟩
   ·obtain⟨_,_,_,_,_,z⟩:=at_ i kx h3;exact absurd z (g2 d h1 i h2)
   exact Qf q
  rw[g4]at hmet;cases hmet;have hi:i<es.size:=by have:=(Qe.mp g2).1;rw[<-Ql];omega
  obtain⟨k,hk,c,hc,hic,hh⟩:=fE el (i:=i) (e:=es[i]) (by rw[Q2];exact QH hi)
  have all:∀v∈List.map (λx:Int × Value=>x.2) (Array.filter (λx=>x.1==(bg prog w).hash kx) es).toList,∃c k,v=.ref c/\TK.IsT (au prog w) s.heap k c:=λv hv=>by
   obtain⟨e,he,rfl⟩:=Qj.mp hv;rw[Array.toList_filter]at he;obtain⟨j,hj⟩:=List.getElem?_of_mem (QR.mp he).1;obtain⟨k,_,c,h1,h2,_⟩:=fE el hj;exact⟨c,k,h1,h2⟩
  have same:t.sameMemory t.moves t.mask=some true:=by simp[sameMemory]
  refine wpAny_ite_split (λ_=>Qa (vK hx all ?_)) (λ_=>?_)
  all_goals try rw[Qr Qm]
  all_goals
   rw[QH hi];have ee:es[i]=(es[i].1,.ref c):=by rw[<-hc]
   rw[ee];dsimp only;refine Qa (Q9 (TK.t_eq (jD prog w) hu hic hx ?_));refine Qa (Xq ho rfl hf ?_);dsimp only;by_cases ck:k=kx
   ·subst ck;rw[Qx rfl,Qt (show (true&&true)=true from rfl)];rcases q with⟨_,q⟩|⟨q,_⟩
    ·exact Qf q
    exact absurd (Qk hk) q
   rw[Qv ck,Qr (by simp),same];dsimp only;rw[Qt rfl,fJ b0.up g2];dsimp only;rw[QH hi,ee];dsimp only;refine Qa (wpAny_isSame_ref_self (Qa (Qf ?_)));rw[Qt rfl];dsimp only;rw[Qr Qm];refine ih (n-(d+1)) (by omega) (itn (adv t.mask) (d+1) p) fu (some (itn (adv t.mask) (d+1) p)) rfl g5 (by omega) (by omega) g6 ?_;rcases q with⟨⟨d2,i2,h1,h2,h3⟩,q⟩|⟨q1,q2⟩
   ·refine .inl ⟨⟨d2-(d+1),i2,?_,?_,h3⟩,q⟩
    all_goals
     have:d<d2:=by
      rcases Nat.lt_trichotomy d2 d with z|z|z
      ·obtain⟨_,_,_,_,_,y⟩:=at_ i2 kx h3;exact absurd y (g7 d2 z i2 h2)
      ·subst z;have hi2:i2<t.place.toList.length:=(Qe.mp h2).1;have:=(List.getElem?_inj hi2 b0.up.nodup).mp (h2.trans g2.symm);subst this;rw[hk]at h3;exact absurd (QJ h3) ck
      exact z
    ·omega
    rw[<-di,show d+1+(d2-(d+1))=d2 by omega];exact h2
   refine .inr ⟨q1,?_⟩;rw[<-di,show d+1+(n-(d+1))=n by omega];exact q2
 rename_i hmet
 have hmet:probe.go t (λi=>(es[i]?.map (·.1)).getD 0) ((bg prog w).hash kx) (10*turns t.mask) p=none:=by
  cases c:probe.go t (λi=>(es[i]?.map (·.1)).getD 0) ((bg prog w).hash kx) (10*turns t.mask) p with
  | none=>rfl
  | some m=>exact absurd c (hmet m)
 rcases go with⟨g1,_⟩|⟨d,i,_,_,_,g4,_⟩
 ·rw[g1]at hmet;cases hmet
 rw[g4]at hmet;cases hmet
end
theorem xm {m n j:Nat} {L:Nat->Prop} {p:Probe} (r:Rch m L p j) (hj:L j) (e:Emp m L n p):∃d,d<n/\(itn (adv m) d p).j=j:=by
 induction r generalizing n with
 | here p =>
  cases n with
  | zero=>exact absurd hj e
  | succ n=>exact⟨0,by omega,rfl⟩
 | step a _ ih =>
 cases n with
 | zero=>exact absurd a e
 | succ n=>obtain⟨d,h1,h2⟩:=ih hj e.2;exact⟨d+1,by omega,h2⟩
theorem tK {m:Nat}:∀(n:Nat) (p:Probe),p.j+p.more<m+1->(itn (adv m) n p).j<m+1
 | 0,p,h=>by show p.j<_;omega
 | n+1,p,h=>by
  refine tK n (adv m p) ?_;unfold adv
  split
  ·show p.j+1+(p.more-1)<_;omega
  have l:(leap m p.i p.perturb).1<m+1:=Nat.mod_lt _ (Nat.succ_pos _);have:=my l;show (leap m p.i p.perturb).1+(runEnd m (leap m p.i p.perturb).1-(leap m p.i p.perturb).1)<_;omega
theorem paired_perm {α β:Type} {R:α->β->Prop} {as as':List α} (p:as'.Perm as):∀{bs:List β},Paired R as bs->∃bs',Paired R as' bs'/\bs'.Perm bs:=by
 induction p with
 | nil=>intro bs h;exact⟨bs,h,.refl _⟩
 | cons x _ ih=>intro bs h;cases h with
  | cons q t=>obtain⟨bs',h1,h2⟩:=ih t;exact⟨_::bs',.cons q h1,h2.cons _⟩
 | swap x y l=>intro bs h;cases h with
  | cons q t=>cases t with
   | cons q2 t2=>exact⟨_::_::_,.cons q2 (.cons q t2),.swap _ _ _⟩
 | trans _ _ ih1 ih2=>intro bs h;obtain⟨b2,h1,h2⟩:=ih2 h;obtain⟨b3,h3,h4⟩:=ih1 h1;exact⟨b3,h3,h4.trans h2⟩
theorem gK {α β:Type} {R:α->β->Prop} {x:α} {y:β} (q:R x y):∀(p:Nat) {as:List α} {bs:List β},Paired R as bs->Paired R (as.take p++x::as.drop p) (bs.take p++y::bs.drop p)
 | 0,_,_,h=>by simpa using Paired.cons q h
 | p+1,_,_,.nil=>.cons q .nil
 | p+1,_,_,.cons r t=>.cons r (gK q p t)
section
variable {prog:Program} {w:World}
def SetK (prog:Program) (w:World) (B:Addr->Prop) (h:Heap) (a:Addr) (ks:List av):Prop:=∃(es:Array (Int × Value)) (ep:Nat) (t:SetTable) (ks':List av),h.get? a=some (tT es ep t)/\Paired (El prog w B h) es.toList ks'/\ks'.Perm ks/\ks.Nodup/\Tb t (es.toList.map (·.1))/\es.size*5<t.mask*3/\LS.Led w t es.size
variable {A:Around} {E:A0} {s:Shared} {a b:Addr} {ks:List av} {k:av} {B:Addr->Prop}
theorem SetK.new {h:Heap} (g:h.get? a=some (LS.bare !(w.params.followText "set-order"))):SetK prog w B h a [] :=
 ⟨#[],0,_,[],g,.nil,.refl _,List.nodup_nil,⟨.inl rfl,rfl,rfl,List.Pairwise.nil,fun j h=>(nomatch h),fun q h=>(nomatch h)⟩,show 0*5<7*3 by decide,by
  unfold LS.Led
  cases e:w.params.followText "set-order" with
  | true=>exact .inl rfl
  | false=>exact .inr ⟨rfl,λz=>absurd rfl z⟩⟩
theorem yf {Q:Bool->Shared->Prop} (hu:A.units+1<cLine) (S:SetK prog w B s.heap a ks) (hk:TK.IsT (au prog w) s.heap k b) (tx:k.all byV2=false) (hB:B b) (fw:ks.length<76)
  (h:∀h' c ks2,Heap.SameBut a s.heap h'->SetK prog w B h' a ks2->ks2.length<=ks.length+1->(∀x,x∈ks2↔x∈ks\/x=k)->Q c { s with heap:=h' }):wpAny (model prog w) A (setAddHashed a (.ref b) ((bg prog w).hash k)) Q E s:=by
 obtain⟨es,ep,t,ks',ho,el,pk,nd,b0,fe,ld⟩:=S;have lk:es.size=ks.length:=by rw[<-Ql,Xi el,pk.length_eq]
 have m7:7<=t.mask:=by rcases b0.msk with e|e|e <;> omega
 have fl:es.size<=t.mask:=by omega
 have hf:t.fits es.size=true:=by have:=b0.fits (by rw[Qd,Ql];exact fl);rwa [Qd,Ql]at this
 have pz:t.place.toList.length=es.toList.length:=by rw[b0.len,Qd]
 obtain⟨e0,he0,ne0⟩:=oQ (m:=t.mask) b0.up.nodup (by rw[pz,Ql];omega);obtain⟨n,hn,em⟩:=p8 (L:=(·∈t.place.toList)) b0.msk ((bg prog w).hash k) he0 ne0;have t127:t.mask<=127:=by rcases b0.msk with e|e|e <;> omega
 unfold setAddHashed setAddHashedIn;refine Q9 (Qa (Xq ho rfl hf ?_));dsimp only;rw[Qr (show ¬(byScan (.ref b) es=true) by simp[byScan,Value.scannable])];unfold setSearch;refine Qa (vT hu ho b0 fl el hk n (beg t.mask (bits ((bg prog w).hash k) % (t.mask+1),bits ((bg prog w).hash k))) 100000 none rfl em (by unfold turns at hn;omega) hn rfl ?_);by_cases c:k∈ks
 ·refine .inl ⟨?_,Qf (h s.heap false ks (Heap.SameBut.refl a s.heap) ⟨es,ep,t,ks',ho,el,pk,nd,b0,fe,ld⟩ (XN _) λx=>⟨.inl,λz=>z.elim id λe=>e▸c⟩)⟩;obtain⟨i,hi,ei⟩:=Q8 (pk.mem_iff.mpr c);have ei:ks'[i]?=some k:=by rw[Qc hi,ei]
  have hi2:i<es.toList.length:=by rw[Xi el];exact hi
  have hi3:i<t.place.toList.length:=by omega
  obtain⟨k2,h1,_,_,_,h4,_⟩:=fE el (Qc hi2);rw[ei]at h1;cases h1
  have r:=b0.rch (t.place.toList[i],es.toList[i].1) (Qk (i:=i) (by
   rw[List.getElem?_zip_eq_some]
   exact⟨Qc hi3,by rw[Qs,Qc hi2];rfl⟩))
  dsimp only at r;rw[h4]at r;obtain⟨d,d1,d2⟩:=xm r (Xb hi3) em;exact⟨d,i,d1,by rw[qJ]at d2;rw[Qc hi3];exact congrArg some d2.symm,ei⟩
 refine .inr ⟨λz=>c (pk.mem_iff.mp z),?_⟩;obtain⟨r,nl⟩:=em.rch
 have jb:(itn (adv t.mask) n (beg t.mask (bits ((bg prog w).hash k) % (t.mask+1),bits ((bg prog w).hash k)))).j<t.mask+1:=tK n _ (by
  have l:bits ((bg prog w).hash k) % (t.mask+1)<t.mask+1:=Nat.mod_lt _ (Nat.succ_pos _);have:=my l;show bits ((bg prog w).hash k) % (t.mask+1)+(runEnd t.mask (bits ((bg prog w).hash k) % (t.mask+1))-bits ((bg prog w).hash k) % (t.mask+1))<_
  omega)
 generalize (itn (adv t.mask) n (beg t.mask (bits ((bg prog w).hash k) % (t.mask+1),bits ((bg prog w).hash k)))).j=j at *;dsimp only;refine Qa (Xq ho rfl hf ?_);dsimp only;obtain⟨p,ep',p1,p2,p3,p4,b1⟩:=b0.put jb nl r;rw[<-ep'];generalize (t.put j).1=t1 at *;have lp:es.size=(es.toList.map (·.1)).length:=by simp
 rw[<-lp]at p1;have il:=lB es p ((bg prog w).hash k,Value.ref b) p1;generalize insertAt es p ((bg prog w).hash k,Value.ref b)=es1 at *;have ih1:es1.toList.map (·.1)=(es.toList.map (·.1)).take p++(bg prog w).hash k::(es.toList.map (·.1)).drop p:=by rw[il,Q3,Qu,List.map_take,List.map_drop]
 rw[<-ih1]at b1;have z1:es1.size=es.size+1:=by rw[<-Ql,il];simp only[Qn,Xp,QO,XS,Ql];omega
 have el1:Paired (El prog w B s.heap) es1.toList (ks'.take p++k::ks'.drop p):=by rw[il];exact gK ⟨b,rfl,hk,rfl,hB⟩ p el
 have pk1:(ks'.take p++k::ks'.drop p).Perm (ks++[k]):=by
  refine List.perm_middle.trans ?_;rw[List.take_append_drop];exact(pk.cons k).trans (List.perm_append_singleton k ks).symm
 have nd1:(ks++[k]).Nodup:=XF.mpr ⟨nd,by simp,λx hx y hy e=>c (by simp at hy;rw[<-hy,<-e];exact hx)⟩;have mm:∀x,x∈ks++[k]↔x∈ks\/x=k:=λx=>by simp
 have fin:∀t2:SetTable,t2.mask=t.mask->Tb t2 (es1.toList.map (·.1))->LS.Led w t2 es1.size ->
   wpAny (model prog w) A (storeSet a es1 t2 >>= λ_=>if (!false&&t2.tooFull)=true then setRelay a (grown (es.size+1)) >>= λ_=>pure true else pure true) Q E s:=λt2 em b2 ld2=>by
  have fill2:t2.fill=es1.size:=by unfold SetTable.fill;have:=b2.len;rw[Ql,Qd,Ql]at this;rw[this,b2.dum];rfl
  refine Qa (wpAny_storeSet_of ho rfl ?_ (by rw[XH];omega));have g1:(s.heap.update a (Obj.putSet es1 t2)).get? a=some (tT es1 (ep+1) t2):=Xe (Obj.putSet es1 t2) ho rfl;have sb1:=Xf s.heap a (Obj.putSet es1 t2);have elA:∀{h':Heap} {l:List (Int × Value)} {ks3:List av},Heap.SameBut a s.heap h'->Paired (El prog w B s.heap) l ks3->Paired (El prog w B h') l ks3:=λsb x=>Paired.mapT x λe k q=>q.at ho (λz=>absurd (Value.type.inj z) (by decide)) λb o hb e=>(sb.2 b hb).trans e;by_cases tf:t2.tooFull=true
  ·rw[tf,Qt (show (!false&&true)=true from rfl)];unfold tooFull at tf;rw[fill2,em]at tf;have tf:t.mask*3<=es1.size*5:=XD tf
   obtain⟨m',hm',es',fw'⟩:∃m',Msk m'/\sizeAbove (grown (es.size+1))=m'+1/\es1.size*5<m'*3:=by
    rcases b0.msk with e|e|e
    ·have:es.size=4:=by omega
     rw[this];exact⟨31,.inr (.inl rfl),by decide +kernel,by omega⟩
    ·have:es.size=18:=by omega
     rw[this];exact⟨127,.inr (.inr rfl),by decide +kernel,by omega⟩
    omega
   have hf2:t2.fits es1.size=true:=by have:=b2.fits (by rw[Qd,Ql];omega);rwa [Qd,Ql]at this
   obtain⟨t3,order,l1,l2,l3,l4,l5,l6⟩:=xT hm' es1 (by omega) t2.finger (t2.movedTo m') t2.led t2.plain
   have rl:t2.relaid (es1.map (·.1)) (grown (es.size+1))=some (t3,order):=by
    unfold relaid;rw[es',Nat.add_sub_cancel];exact l1
   have z3:(order.filterMap (es1[·]?)).size=es1.size:=by rw[<-Ql,l5.length_eq,Ql]
   unfold setRelay;refine Qa (Qa (Xq (s:={ s with heap:=s.heap.update a (Obj.putSet es1 t2) }) g1 rfl hf2 ?_));dsimp only;have m127:m'<=127:=by rcases hm' with e|e|e <;> omega
   rw[Qr (show ¬sizeAbove (grown (es.size+1))>sizeLine by rw[es',XH];omega),rl];have nz:((order.filterMap (es1[·]?)).size != es1.size)=false:=by rw[z3];simp
   generalize hS:storeSet=ST
   wp_walk
   subst hS;dsimp only;refine wpAny_storeSet_of (s:={ s with heap:=s.heap.update a (Obj.putSet es1 t2) }) g1 rfl ?_ (by rw[z3,XH];omega);obtain⟨ks4,e4,p4'⟩:=paired_perm l5 el1;have sb2:=sb1.trans (Xf (s.heap.update a (Obj.putSet es1 t2)) a (Obj.putSet (order.filterMap (es1[·]?)) t3));refine Qf (h _ true (ks++[k]) sb2 ⟨_,ep+1+1,t3,ks4,Xe (Obj.putSet (order.filterMap (es1[·]?)) t3) g1 rfl,elA sb2 e4,p4'.trans pk1,nd1,l6,by rw[z3,l2];exact fw',?_⟩ (by simp) mm);rw[z3];exact ld2.imp id λz=>⟨l3.trans z.1,λy=>l4.trans (z.2 y)⟩
  rw[Bool.eq_false_iff.mpr tf,Qr (by simp)];refine Qf (h _ true (ks++[k]) sb1 ⟨es1,ep+1,t2,_,g1,elA sb1 el1,pk1,nd1,b2,?_,ld2⟩ (by simp) mm);unfold tooFull at tf;rw[fill2]at tf;have:=of_decide_eq_false (Bool.eq_false_iff.mpr tf);omega
 have tb_off:Tb { t1 with plain:=false } (es1.toList.map (·.1)):=⟨b1.msk,b1.dum,b1.len,b1.up,b1.bd,b1.rch⟩;have led2:∀t2:SetTable,t2.led=t.led->t2.plain=false->LS.Led w t2 es1.size:=λt2 e1 e2=>ld.imp id λz=>⟨e1.trans z.1,λ_=>e2⟩;by_cases pl:t1.plain=true
 ·rw[Qt pl];refine Qa (byv hk ?_);rw[tx];exact fin { t1 with plain:=false } p2 tb_off (led2 _ p3 rfl)
 rw[Qr pl];refine Qa (Qf ?_);exact fin t1 p2 b1 (led2 _ p3 (Bool.eq_false_iff.mpr pl))
end
end Ht
set_option maxHeartbeats 4000000
namespace LG
open PySem PySem.Spec PyProof.Rows LS
section
variable {prog:Program} {w:World} {A:Around} {E:A0} {s:Shared}
theorem call_set_gen {l:Addr} {its:Array Value} {G:Heap->Addr->Prop} {Q:A0} (hh:A.handled=none) (hl:s.heap.IsList l its)
  (loop:∀(I S:Addr) (s0:Shared) (R:Result->Shared->Prop),(∀b o,s.heap.get? b=some o->s0.heap.get? b=some o)->s.heap.objs.size<=S->s.heap.objs.size<=I->l≠I->S∉[I,l]->(s0.heap.IsListIter I l 0/\s0.heap.IsList l its)->s0.heap.get? S=some (bare !(w.params.followText "set-order")) ->
   (∀s',Moved [S,I] (λa b=>b=a) s0 s'->G s'.heap S->R (.ok (.ret .none)) s')->codeAny (model prog w) A.in1.in1 (.builtin "set.update.loop" ⟨[.ref S,.ref I],[]⟩) R s0)
  (h:∀(h1:Heap) (tk:Nat),G h1 s.heap.objs.size->(∀b o,s.heap.get? b=some o->h1.get? b=some o)->Q (.ref s.heap.objs.size) { s with heap:=h1,toks:=tk }) :
  wpAny (model prog w) A (call (.type "set") [.ref l]) Q E s:=by
 obtain⟨cl,tl,mro⟩:=F.called_set.mro;have y1:=F.called_set.made;have y2:=F.called_set.sub;refine wpAny_call (codeAny_of_tree ?_);show wpAny _ _ (callAny (.type "set") ⟨[.ref l],[]⟩) _ _ _;refine Qf ⟨Code.quiet_builtin _ (by decide +kernel),Xy F.entry_type_call ?_⟩;rw[Around.under_plain (weight_type_call_type "set" [.ref l] []) rfl];have y3:=F.called_set.notType;have y4:=F.called_set.canCreate;have y5:=F.typeCall_set_1 (.ref l)
 repeat (any_goals (first|assumption|wp_step))
 refine codeAny_mono (tD (.ref l) (E:=E) (Q₁:=λv s1=>∃led:Bool,led=!(w.params.followText "set-order")/\v=.ref s.heap.objs.size/\s1={ s with heap:=s.heap.push (bare led) }) ⟨_,rfl,rfl,rfl⟩) λr s1 hr=>?_
 cases r with
 | error e=>exact hr
 | ok fl =>
 cases fl with
 | ret obj =>
  obtain⟨led,hled,rfl,rfl⟩:=hr;have hS:(s.heap.push (bare led)).get? s.heap.objs.size=some (bare led):=Qq _ rfl;have hT:Shared.TypeIs { s with heap:=s.heap.push (bare led) } (.ref s.heap.objs.size) "set" := ⟨_,hS,rfl⟩;have y6:=F.called_set.init.lookup;have y7:=F.called_set.init.bind (.ref s.heap.objs.size)
  repeat (any_goals (first|assumption|wp_step))
  refine codeAny_mono (codeAny_call_builtin (R:=wants (λv s2=>v=.none/\∃h1 tk,s2={ s with heap:=h1,toks:=tk }/\G h1 s.heap.objs.size/\∀b o,s.heap.get? b=some o->h1.get? b=some o) E) F.called_set.init.plain F.entry_set_init (check_set_init_1 hT ?_)) λr2 s2 hr2=>?_
  ·obtain⟨ol,hol,hcl,nl,hdl⟩:=hl;obtain⟨ocls,odict,odata,oslots⟩:=ol;simp only at hcl hdl;subst hcl;subst hdl;have hol1:(s.heap.push (bare led)).get? l=some { cls:=.type "list", dict:=odict,data:=.seq its nl,slots:=oslots }:=Qb _ hol;have y8:=F.sub_list_set;have y9:=F.sub_list_frozenset;have y0:(Value.type "list" == Value.type "dict")=false:=by decide
   have hl1:(s.heap.push (bare led)).IsList l its:=⟨_,hol1,rfl,nl,rfl⟩;unfold Builtin.«set.__init__» noKeywords Builtin.Frozenset.updateFrom;generalize hPI:pyIter=PI
   wp_walk
   subst hPI;refine wpAny_pyIter_list hl1 ?_;refine Qa (wpAny_runValue ?_);have lS:l<s.heap.objs.size:=Qp hol
   have nI:l≠(s.heap.push (bare led)).objs.size:=by
    rw[Xr];exact QC (Nat.lt_succ_of_lt lS)
   have nF:s.heap.objs.size∉[(s.heap.push (bare led)).objs.size,l]:=by
    rw[Xr];simp only[Qh,QB,QA,Xk,not_or];exact⟨QC (Nat.lt_succ_self _),Nat.ne_of_gt lS⟩
   refine loop _ _ _ _ (λb o e=>Qb _ (Qb _ e)) (Qg _) (by rw[Xr];exact XN _) nI nF ⟨⟨_,Qq _ rfl,rfl,rfl⟩,(hl1.push _)⟩ ?_ λs3 mv q=>?_
   ·have e:((s.heap.push (bare led)).push { cls:=.type "list_iterator", data:=.fields #[.ref l,.int 0 0] }).get? s.heap.objs.size=some (bare led):=Qb _ hS;rw[e,hled]
   obtain⟨h3,g3,d3,tk3,os3⟩:=s3;obtain rfl:g3=s.gens:=mv.gens;obtain rfl:d3=s.drawn:=mv.drawn;obtain rfl:os3=s.os:=mv.os;show wpAny _ _ _ _ _ _;refine Qf ?_;show wpAny _ _ (ret Value.none) _ _ _;refine Qf ⟨rfl,h3,tk3,rfl,q,λb o e=>?_⟩;have lb:=Qp e;have z1:b≠s.heap.objs.size:=QC lb
   have z2:b≠(s.heap.push (bare led)).objs.size:=by
    rw[Xr];exact QC (Nat.lt_succ_of_lt lb)
   exact mv.heap b o (by simp only[Qh,QB,QA,Xk,not_or];exact⟨z1,z2⟩) (Qb _ (Qb _ e))
  cases r2 with
  | error e=>exact hr2
  | ok fl2 =>
  cases fl2 with
  | ret r =>
   obtain⟨rfl,h1,tk,rfl,q,k⟩:=hr2
   repeat (any_goals (first|assumption|wp_step))
   exact h _ _ q k
  | _=>exact hr2.elim
 | _=>exact hr.elim
end
end LG
set_option maxHeartbeats 400000
namespace LS
open PySem PySem.Spec PyProof.Rows
theorem eZ {α:Type}:∀{l:List α} {i:Nat} (h:i<l.length),(l[i]::l.eraseIdx i).Perm l
 | a::l,0,_=>.refl _
 | a::l,i+1,h=>by
  have hi:i<l.length:=by simpa using h
  have q:=eZ (l:=l) (i:=i) hi;show (l[i]::a::l.eraseIdx i).Perm (a::l);exact(List.Perm.swap _ _ _).trans (q.cons a)
theorem oq {α:Type} (next:Nat->Nat):∀(fuel k:Nat) (left:List α) (out:Array α),left.length=fuel->(pickOrder.go next fuel k left out).toList.Perm (out.toList++left)
 | 0,k,left,out,h=>by
  obtain rfl:left=[]:=List.length_eq_zero_iff.mp h;simp[pickOrder.go]
 | fuel+1,k,left,out,h=>by
  have lt:next k % left.length<left.length:=Nat.mod_lt _ (by omega);have e:left[next k % left.length]?=some left[next k % left.length]:=Qc lt;unfold pickOrder.go;rw[e];refine(oq next fuel (k+1) _ _ (by rw[List.length_eraseIdx_of_lt lt];omega)).trans ?_;rw[Array.toList_push,List.append_assoc];exact List.Perm.append_left _ (eZ lt)
theorem pick_perm {α:Type} (next:Nat->Nat) (xs:Array α):(pickOrder next xs).toList.Perm xs.toList:=by
 have:=oq next xs.size 0 xs.toList #[] (by simp);unfold pickOrder;simpa using this
section
variable {prog:Program} {w:World} {A:Around} {E:A0} {s:Shared} {a it:Addr} {es:Array (Int × Value)} {ep:Nat} {t:SetTable} {i:Nat}
theorem jd {src:Source} {n:Nat} {Q:Nat->Shared->Prop} (hn:n≠0) (h:∀i d,i<n->Q i { s with drawn:=d }):wpAny (model prog w) A (choose src n) Q E s:=λΓ p hΓ=>by
 show Sem.wp (model prog w) Γ (.choose src n .pure) _ _ p s;rw[Sem.wp_choose];refine⟨hn,?_⟩;rw[Sem.wp_pure];exact h _ _ (Nat.mod_lt _ (Nat.pos_of_ne_zero hn))
theorem dO {α:Type}:∀(n:Nat) (xs:List α) (s:Shared) (Q:List α->Shared->Prop),xs.length=n->(∀ys d,ys.Perm xs->Q ys { s with drawn:=d })->wpAny (model prog w) A (drawOrder n xs) Q E s
 | 0,xs,s,Q,h,q=>by
  obtain rfl:xs=[]:=List.length_eq_zero_iff.mp h;exact Qf (q [] s.drawn .nil)
 | n+1,[],s,Q,h,q=>by cases h
 | n+1,x::xs,s,Q,h,q=>by
  unfold drawOrder;refine Qa (jd (by simp) λi d hi=>?_);rw[Qc hi];dsimp only;refine Qa (dO n _ _ _ (by rw[List.length_eraseIdx_of_lt hi];simp at h ⊢;omega) λys d2 pm=>Qf (q _ d2 ?_));exact(List.Perm.cons _ pm).trans (eZ hi)
variable {Q:Option (Value × Nat)->Shared->Prop}
theorem iU {slot:Nat} (ht:w.params.followText "set-order" = true) (hs:dj s.heap a es ep t) (h:Q (((pickOrder (w.params.setOrder a ep) es)[i]?).map λe=>(e.2,slot)) s):wpAny (model prog w) A (setNext a slot i ep) Q E s:=by
 obtain⟨os,hos,hds,_,hf⟩:=id hs;unfold setNext setsByText;refine Qa (Xq hos hds hf ?_);dsimp only;refine Qa (Qa (wpAny_askSetting (Qf ?_)));rw[Qt (show (Setting.params ⟨(model prog w).prog,(model prog w).w.params⟩).followText "set-order" = true from ht),Qr (by simp)];unfold setWalk setsByText;refine Qa (Qa (Xq hos hds hf ?_));dsimp only;refine Qa (Qa (wpAny_askSetting (Qf ?_)));rw[Qt (show (Setting.params ⟨(model prog w).prog,(model prog w).w.params⟩).followText "set-order" = true from ht)];refine Qa (wpAny_askSetting (Qf ?_));exact Qf h
theorem kZ {slot:Nat} (ht:w.params.followText "set-order" = false) (hs:dj s.heap a es ep t) (h1:es.size<=1) (hl:t.led=true)
  (h:Q (match es[SetTable.below t.place slot]?,t.place[SetTable.below t.place slot]? with|some (_,x),some j=>some (x,j+1)|_,_=>none) s):wpAny (model prog w) A (setNext a slot i ep) Q E s:=by
 obtain⟨os,hos,hds,_,hf⟩:=id hs;unfold setNext setsByText;refine Qa (Xq hos hds hf ?_);dsimp only;refine Qa (Qa (wpAny_askSetting (Qf ?_)));rw[Qr (show ¬(Setting.params ⟨(model prog w).prog,(model prog w).w.params⟩).followText "set-order" = true by rw[show (Setting.params ⟨(model prog w).prog,(model prog w).w.params⟩).followText "set-order" = false from ht];exact Qm)];refine wpAny_ite_split (λhab=>?_) λ_=>?_
 ·have hab:(!t.plain&&decide (es.size>1))=true:=hab;simp at hab;omega
 refine Qa ?_;show wpAny _ _ (if (!t.led&&!es.isEmpty)=true then unsupported "set:maker-not-led" else pure ()) _ _ _;rw[Qr (by rw[hl];simp)];exact Qf (Qf h)
theorem l7 (hh:A.handled=none) (ht:w.params.followText "set-order" = true) (I:Addr) (ne:a≠I):Walks prog w A I [I,a] [I] es.size (λi v=>∃e,(pickOrder (w.params.setOrder a ep) es).toList[i]?=some e/\v=e.2) (λi h=>eA h I a (.int 0 0) i es.size ep/\dj h a es ep t) where
 sub:=λb hb=>by simp at hb;simp[hb]
 frame:=λ_ _ _ st hk=>⟨st.1.at λo e=>hk I (by simp) o e,st.2.at λo e=>hk a (by simp) o e⟩
 item:=λi s Q E hi st hQ=>by
  have z:(pickOrder (w.params.setOrder a ep) es).size=es.size:=by simpa using(pick_perm (w.params.setOrder a ep) es).length_eq
  obtain⟨e,he⟩:∃e,(pickOrder (w.params.setOrder a ep) es)[i]?=some e:=⟨_,QH (by rw[z];exact hi)⟩;refine iV (slot:=0) (next:=0) (x:=e.2) st.1 st.2 (λQ E q=>iU ht st.2 (by rw[he];exact q)) λh' hit' hs'=>?_;exact hQ _ h' s.toks ⟨e,by rw[Q2];exact he,rfl⟩ ⟨hit',st.2.at λo e=>hs'.extBut a o ne e⟩ λb o hb e=>hs'.extBut b o (λh=>hb (by simp[h])) e
 done:=λs Q E st hQ=>by
  have z:(pickOrder (w.params.setOrder a ep) es).size=es.size:=by simpa using(pick_perm (w.params.setOrder a ep) es).length_eq
  exact iW (slot:=0) hh st.1 st.2 (λQ E q=>iU ht st.2 (by rw[Array.getElem?_eq_none (by rw[z];exact Qg _)];exact q)) λh' he'=>hQ h' s.toks λb o hb e=>he' b o (λh=>hb (by simp[h])) e
 self:=λ_ _ _ _ st hQ=>jL st.1 hQ
theorem j5 (hh:A.handled=none) (I tp:Addr) (pl:List Nat) (hp:pl.Perm (List.range es.size)) (ne:a≠I) (nt:tp≠I):Walks prog w A I [I,a,tp] [I] es.size (λi v=>∃e,(pl.filterMap λj=>es[j]?)[i]?=some e/\v=e.2)
  (λi h=>eA h I a (.ref tp) i es.size ep/\dj h a es ep t/\h.get? tp=some { cls:=.type "tuple", data:=.seq (pl.map λ(i:Nat)=>rawInt i).toArray }) where
 sub:=λb hb=>by simp at hb;simp[hb]
 frame:=λ_ _ _ st hk=>⟨st.1.at λo e=>hk I (by simp) o e,st.2.1.at λo e=>hk a (by simp) o e,hk tp (by simp) _ st.2.2⟩
 item:=λi s Q E hi st hQ=>by
  have pz:pl.length=es.size:=by simpa using hp.length_eq
  have lt:i<pl.length:=by omega
  have all:∀j∈pl,∃e,es[j]?=some e:=λj hj=>⟨_,QH (by simpa using hp.mem_iff.mp hj)⟩;obtain⟨e,he⟩:=all pl[i] (Xb lt)
  have fm:∀(l:List Nat) (i:Nat) (h:i<l.length),(∀j∈l,∃e,es[j]?=some e)->(l.filterMap λj=>es[j]?)[i]?=es[l[i]]?:=by
   intro l
   induction l with
   | nil=>intro i h;simp at h
   | cons x l ih =>
   intro i h al;obtain⟨e,he⟩:=al x Xl;rw[List.filterMap_cons_some he]
   cases i with
   | zero=>rw[List.getElem?_cons_zero];exact he.symm
   | succ i=>rw[List.getElem?_cons_succ];exact ih i (by simpa using h) λj hj=>al j (Qo _ hj)
  refine mZ (p:=pl[i]) st.1 st.2.1 st.2.2 (Qc lt) he λh' hit' hs'=>?_;exact hQ _ h' s.toks ⟨e,by rw[fm pl i lt all];exact he,rfl⟩ ⟨hit',st.2.1.at λo e=>hs'.extBut a o ne e,hs'.extBut tp _ nt st.2.2⟩ λb o hb e=>hs'.extBut b o (λh=>hb (by simp[h])) e
 done:=λs Q E st hQ=>by
  have pz:pl.length=es.size:=by simpa using hp.length_eq
  exact m5 hh st.1 st.2.1 st.2.2 (QU (by omega)) λh' he'=>hQ h' s.toks λb o hb e=>he' b o (λh=>hb (by simp[h])) e
 self:=λ_ _ _ _ st hQ=>jL st.1 hQ
theorem ja (j k:Nat):SetTable.below #[j] k=if j<k then 1 else 0:=by
 unfold SetTable.below;simp[SetTable.below.go]
theorem pc (hh:A.handled=none) (ht:w.params.followText "set-order" = false) (h1:es.size<=1) (hl:t.led=true) (I:Addr) (ne:a≠I):Walks prog w A I [I,a] [I] es.size (λi v=>∃e,es.toList[i]?=some e/\v=e.2)
  (λi h=>(∃slot:Nat,eA h I a (.int slot 0) i es.size ep/\(i=0->slot=0)/\(i=1->∃j,t.place=#[j]/\slot=j+1))/\dj h a es ep t) where
 sub:=λb hb=>by simp at hb;simp[hb]
 frame:=λ_ _ _ st hk=>let ⟨⟨sl,x,y⟩,z⟩:=st;⟨⟨sl,x.at λo e=>hk I (by simp) o e,y⟩,z.at λo e=>hk a (by simp) o e⟩
 item:=λi s Q E hi st hQ=>by
  obtain⟨⟨sl,x,y,_⟩,z⟩:=st;obtain rfl:i=0:=by omega
  obtain rfl:=y rfl;have e1:es.size=1:=by omega
  obtain⟨os,hos,hds,_,hf⟩:=id z;have pz:t.place.size=1:=by simp[SetTable.fits]at hf;omega
  obtain⟨j,hj⟩:=Array.size_eq_one_iff.mp pz;obtain⟨e,he⟩:=Array.size_eq_one_iff.mp e1;refine iV (slot:=0) (next:=j+1) (x:=e.2) x z (λQ E q=>kZ ht z h1 hl (by rw[hj,ja];simp[he];exact q)) λh' hit' hs'=>?_;exact hQ _ h' s.toks ⟨e,by rw[he];rfl,rfl⟩ ⟨⟨j+1,hit',λq=>by omega,λ_=>⟨j,hj,rfl⟩⟩,z.at λo e=>hs'.extBut a o ne e⟩ λb o hb e=>hs'.extBut b o (λh=>hb (by simp[h])) e
 done:=λs Q E st hQ=>by
  obtain⟨⟨sl,x,y1,y2⟩,z⟩:=st;refine iW hh x z (λQ E q=>kZ ht z h1 hl ?_) λh' he'=>hQ h' s.toks λb o hb e=>he' b o (λh=>hb (by simp[h])) e;by_cases e1:es.size=1
  ·obtain⟨j,hj,rfl⟩:=y2 e1;rw[hj,ja];simpa[e1] using q
  have e0:es=#[]:=by simpa using(show es.size=0 by omega)
  subst e0;simpa using q
 self:=λ_ _ _ _ st hQ=>jL st.1.choose_spec.1 hQ
end
end LS
namespace LG
open PySem PySem.Spec PyProof.Rows PySem.Calls LS
section
variable {prog:Program} {w:World} {A:Around} {E:A0} {s:Shared} {a:Addr}
variable {es:Array (Int × Value)}
theorem qV {o:Obj} {ep:Nat} {t:SetTable} {Q:A0} (hh:A.handled=none) (ho:s.heap.get? a=some o) (hc:o.cls=.type "set") (hd:o.data=.set es ep t) (hb:es.size<scanBound) (hf:t.fits es.size=true) (hl:Led w t es.size)
  (h:∀h' d I (od:List (Int × Value)) fp St,od.Perm es.toList->(∀b o,s.heap.get? b=some o->h'.get? b=some o)->s.heap.objs.size<=I->(∀b∈fp,b=a\/s.heap.objs.size<=b)->Walks prog w A I fp [I] es.size (λi v=>∃e,od[i]?=some e/\v=e.2) St->St 0 h'->Q (.ref I) { s with heap:=h',drawn:=d }) :
  wpAny (model prog w) A (pyIter (.ref a)) Q E s:=by
 have hT:s.TypeIs (.ref a) "set" := ⟨o,ho,hc⟩;have hlt:=Qp ho;refine wpAny_pyIter_slot hT F.slot_set_iter (Q5 F.slot_set_iter hT gZ ?_ (F.args_set_iter_1 _));unfold Builtin.«frozenset.__iter__» Builtin.Frozenset.slot0 slotArgs;simp only[List.isEmpty_nil,XU,QE,↓reduceIte,bind_assoc,List.length_nil,bne_self_eq_false];unfold Builtin.Frozenset.addrOf Builtin.Frozenset.sizeOf;refine Qa (Qf ?_)
 try dsimp only
 refine Qa (Qf ?_);refine Qa (Qa (wpAny_setEntries_of ho hd hf (Qf ?_)));unfold setDrawn setsByText;refine Qa (Qa (Xq ho hd hf ?_));dsimp only;refine Qa (Qa (wpAny_askSetting (Qf ?_)));show wpAny _ _ (pure (!(w.params.followText "set-order")&&(!t.plain&&decide (es.size>1)))) _ _ _;refine Qf ?_;have hs0:dj s.heap a es ep t:=⟨o,ho,hd,hc,hf⟩
 have plainway:∀(oI:Obj),oI={ cls:=.type "set_iterator", data:=.fields #[.int 0 0,.int 0 0,.ref a,.int es.size 0,.int ep 0] }->eA (s.heap.push oI) s.heap.objs.size a (.int ((0:Nat):Int) 0) 0 es.size ep/\dj (s.heap.push oI) a es ep t:=λoI e=>by
  subst e;exact⟨⟨_,Qq _ rfl,rfl,rfl⟩,hs0.at λo e=>Qb _ e⟩
 refine wpAny_ite_split (λhab=>?_) λhab=>?_
 ·simp only[Xz,Bool.not_eq_true',decide_eq_true_eq]at hab;refine Qa (dO es.size (List.range es.size) s _ (by simp) λpl d pm=>?_);refine Qa (wpAny_newTuple ?_ (by rw[Qd,pm.length_eq,List.length_range];exact fits_of_scanBound hb));unfold setEpoch;have ho1:(s.heap.push { cls:=.type "tuple", data:=.seq (pl.map λ(i:Nat)=>rawInt i).toArray }).get? a=some o:=Qb _ ho;refine Qa (Qa (Xq (s:={ s with heap:=s.heap.push { cls:=.type "tuple", data:=.seq (pl.map λ(i:Nat)=>rawInt i).toArray },drawn:=d }) ho1 hd hf (Qf ?_)));unfold newFields;refine Qa (XE ?_ (by size_fits));refine Qf ⟨_,rfl, "set_iterator", _,⟨_,Qq _ rfl,rfl⟩,b_.lookup,?_⟩;have ne:a≠(s.heap.push { cls:=.type "tuple", data:=.seq (pl.map λ(i:Nat)=>rawInt i).toArray }).objs.size:=by rw[Xr];exact QC (Nat.lt_succ_of_lt hlt)
  have nt:s.heap.objs.size≠(s.heap.push { cls:=.type "tuple", data:=.seq (pl.map λ(i:Nat)=>rawInt i).toArray }).objs.size:=by rw[Xr];exact QC (Nat.lt_succ_self _)
  refine h _ _ _ (pl.filterMap λj=>es[j]?) _ _ ((pm.filterMap _).trans (by rw[filterMap_getElem?_range])) (λb o e=>Qb _ (Qb _ e)) (by rw[Xr];exact XN _) (λb hb=>?_) (j5 (ep:=ep) (t:=t) hh _ _ pl pm ne nt) ?_
  ·simp only[Qh,QA,Xk]at hb;rcases hb with rfl|rfl|rfl
   ·exact .inr (by rw[Xr];exact XN _)
   ·exact .inl rfl
   exact .inr (Qg _)
  exact⟨⟨_,Qq _ rfl,rfl,rfl⟩,hs0.at λo e=>Qb _ (Qb _ e),Qb _ (Qq _ rfl)⟩
 refine Qa (Qf ?_);unfold setEpoch;refine Qa (Qa (Xq ho hd hf (Qf ?_)));unfold newFields;refine Qa (XE ?_ (by size_fits));refine Qf ⟨_,rfl, "set_iterator", _,⟨_,Qq _ rfl,rfl⟩,b_.lookup,?_⟩;obtain⟨i0,s0⟩:=plainway _ rfl;have ne:a≠s.heap.objs.size:=QC hlt
 have fpok:∀b∈[s.heap.objs.size,a],b=a\/s.heap.objs.size<=b:=λb hb=>by
  simp only[Qh,QA,Xk]at hb;rcases hb with rfl|rfl
  ·exact .inr (Qg _)
  exact .inl rfl
 cases ht:w.params.followText "set-order" with
 | true=>exact h _ s.drawn _ _ _ _ (pick_perm (w.params.setOrder a ep) es) (λb o e=>Qb _ e) (Qg _) fpok (l7 (ep:=ep) (t:=t) hh ht _ ne) ⟨i0,s0⟩
 | false =>
 rcases hl with z|⟨z1,z2⟩
 ·rw[ht]at z;cases z
 have h1:es.size<=1:=by
  rw[ht]at hab;by_cases e0:es.size=0
  ·omega
  rw[z2 e0]at hab;simp at hab;omega
 exact h _ s.drawn _ _ _ _ (.refl _) (λb o e=>Qb _ e) (Qg _) fpok (pc (ep:=ep) hh ht h1 z1 _ ne) ⟨⟨0,i0,λ_=>rfl,λz=>by cases z⟩,s0⟩
theorem sN {r:Addr} {Q:Bool->Shared->Prop} (hT:s.TypeIs (.ref r) "set") (h:Q false s):wpAny (model prog w) A (Builtin.List.listLengthHint (.ref r)) Q E s:=by
 unfold Builtin.List.listLengthHint;refine Qa (wpAny_specialOf hT PySem.F.slot_set_len.lookup ?_);generalize hid:("set.__len__" : String)=id0
 wp_delta
 rw[show splitId id0=some ("set", "__len__") from by subst hid;decide +kernel];subst hid;refine Qa (wpAny_isInstance (T := "set") (b:=true) hT (by rw[isSubtype_type];kernel_rfl) ?_);refine wpAny_ite_split (λhab=>absurd hab (by decide)) (λ_=>?_);refine wpAny_ite_split (λ_=>?_) (λhab=>absurd (by decide +kernel) hab);refine Qa (wpAny_typeOf hT ?_);exact Qf h
theorem collect_set {o:Obj} {ep:Nat} {t:SetTable} {R:List Value->Shared->Prop} (hh:A.handled=none) (ho:s.heap.get? a=some o) (hc:o.cls=.type "set") (hd:o.data=.set es ep t) (hb:es.size<scanBound) (hf:t.fits es.size=true) (hl:Led w t es.size)
  (h:∀g tk d (od:List (Int × Value)),od.Perm es.toList->(∀b o,s.heap.get? b=some o->g.get? b=some o)->s.heap.objs.size<=g.objs.size->R (od.map (·.2)) { s with heap:=g,toks:=tk,drawn:=d }):wpAny (model prog w) A (collect (.ref a)) R E s:=by
 have hlt:=Qp ho;have nz:es.size<=sizeLine:=fits_of_scanBound hb;unfold collect;refine Qa (wpAny_runValue (Xy entry_proto_collect' ?_));rw[Xj PySem.F.plain_proto_collect _];refine Qa (XE (Qf ⟨plainId_quiet PySem.F.plain_list_iadd _,Xy entry_list_iadd' ?_⟩));rw[Xj PySem.F.plain_list_iadd _];show wpAny _ _ (Builtin.List.listExtendWith (.ref s.heap.objs.size) (.ref a) (.ref s.heap.objs.size)) _ _ { s with heap:=s.heap.push { cls:=.type "list", data:=.seq ([]:List Value).toArray } };generalize hL:({ cls:=.type "list", data:=.seq ([]:List Value).toArray }:Obj)=L;have ho1:(s.heap.push L).get? a=some o:=Qb _ ho;have hS:(s.heap.push L).get? s.heap.objs.size=some L:=Qq _ (by rw[<-hL];rfl);have nS:s.heap.objs.size≠a:=Nat.ne_of_gt hlt;unfold Builtin.List.listExtendWith;refine Qa (wpAny_typeOf (T := "set") (s:={ s with heap:=s.heap.push L }) ⟨o,ho1,hc⟩ ?_);have h1:Builtin.List.listSameRef (.ref s.heap.objs.size) (.ref a)=false:=by simp[Builtin.List.listSameRef,nS]
 have h2:(Value.type "set" == Value.type "list")=false:=by decide
 have h3:(Value.type "set" == Value.type "tuple")=false:=by decide
 simp only[h1,h2,h3,Bool.or_false,QE,Xs];refine Qa (qV (A:=A.in1) (s:={ s with heap:=s.heap.push L }) hh ho1 hc hd hb hf hl λh' d I od fp St om k hI hfp W st=>?_);have k':∀b o,s.heap.get? b=some o->h'.get? b=some o:=λb o e=>k b o (Qb _ e);have szL:(s.heap.push L).objs.size=s.heap.objs.size+1:=Xr ..;have nI:s.heap.objs.size≠I:=by have:=hI;simp only[szL]at this;omega
 have hI':s.heap.objs.size<=I:=by simp only[szL]at hI;omega
 have nF:s.heap.objs.size∉fp:=λz=>by
  rcases hfp _ z with y|y
  ·exact nS y
  simp only[szL]at y;omega
 have hS1:h'.get? s.heap.objs.size=some L:=k _ _ hS;refine Qa (Q9 (sN (s:={ s with heap:=h',drawn:=d }) ⟨o,k' a o ho,hc⟩ ?_))
 have key:∀(g:Heap) (c₁ tk:Nat),St 0 g->(∀b o,b≠s.heap.objs.size->h'.get? b=some o->g.get? b=some o)->g.get? s.heap.objs.size=some { cls:=.type "list", data:=.seq #[] c₁ } ->
   codeAny (model prog w) A (.builtin "list.extend.loop" ⟨[.ref s.heap.objs.size,.ref I,.ref s.heap.objs.size],[]⟩) (λr s'=>∃(g:Heap) (tk:Nat) (acc:Array Value) (c:Nat),r=.ok (.ret (.ref s.heap.objs.size))/\s'={ s with heap:=g,toks:=tk,drawn:=d } /\
   (∀b o,s.heap.get? b=some o->g.get? b=some o)/\g.get? s.heap.objs.size=some { cls:=.type "list", dict:=none,data:=.seq acc c,slots:=#[] }/\PySem.ItemsOf (λi v=>∃e,od[i]?=some e/\v=e.2) acc es.size) { s with heap:=g,toks:=tk,drawn:=d }:=by
  intro g c₁ tk hst hk hS₁;refine codeAny_extend_loopS W.toS nz _ nF _ es.size 0 _ #[] c₁ rfl (QP _) hst hS₁ (ItemsOf.nil _) λs' acc' c' hm hS' hacc=>?_;rw[Moved.eq_with hm];refine⟨s'.heap,s'.toks,acc',c',rfl,rfl,λb o e=>hm.heap b o (λhmem=>?_) (hk b o (QC (Qp e)) (k' b o e)),hS',hacc⟩;rcases Qh.mp hmem with e'|hmem
  ·exact absurd (Qp e) (by rw[e'];exact XV _)
  exact absurd (Qp e) (by rw[QB.mp hmem];exact Nat.not_lt.mpr hI')
 have all:∀(acc:Array Value),PySem.ItemsOf (λi v=>∃e,od[i]?=some e/\v=e.2) acc es.size->acc.toList=od.map (·.2):=λacc ⟨z1,z2⟩=>by
  refine List.ext_getElem? λi=>?_;rw[Q2,Qs];by_cases hi:i<es.size
  ·obtain⟨e,e1,e2⟩:=z2 i acc[i] (QH (by omega));rw[QH (by omega),e1,e2];rfl
  rw[Array.getElem?_eq_none (by omega),QU (by rw[om.length_eq,Ql];omega)];rfl
 subst hL;refine wpAny_ite_split (λ_=>?_) (λ_=>Qf ⟨plainId_quiet PySem.F.plain_extend_loop _,codeAny_mono (key h' 0 s.toks st (λb o _ e=>e) hS1) λr s' y=>?_⟩)
 ·refine Qa (wpAny_rule ?_);refine Qa ?_;show wpAny _ _ (updateSeq s.heap.objs.size (·.push .none) >>= λ_=>updateSeq s.heap.objs.size (·.pop)) _ _ _;refine Qa (wpAny_updateSeq hS1 rfl ?_);have hS₂:=Xe (Obj.mapSeq (·.push Value.none)) hS1 rfl;refine wpAny_updateSeq (hz:=by seq_fits) hS₂ rfl ?_;have hS₃:=Xe (Obj.mapSeq (·.pop)) hS₂ rfl;refine Qf ⟨plainId_quiet PySem.F.plain_extend_loop _,codeAny_mono (key _ _ s.toks ?_ (λb o hb e=>?_) hS₃) λr s' y=>?_⟩
  ·refine W.frame 0 _ _ st λb hb o e=>?_;have hbS:b≠s.heap.objs.size:=λh=>nF (h▸hb);exact(Xg _ _ (Ne.symm hbS)).trans ((Xg _ _ (Ne.symm hbS)).trans e)
  ·exact(Xg _ _ (Ne.symm hb)).trans ((Xg _ _ (Ne.symm hb)).trans e)
  obtain⟨g,tk,acc,c,rfl,rfl,kk,at',it⟩:=y;exact Qa (wpAny_load at' (Qf (by rw[all acc it];exact h g tk d od om kk (Nat.le_of_lt (Qp at')))))
 obtain⟨g,tk,acc,c,rfl,rfl,kk,at',it⟩:=y;exact Qa (wpAny_load at' (Qf (by rw[all acc it];exact h g tk d od om kk (Nat.le_of_lt (Qp at')))))
end
end LG
set_option maxHeartbeats 1000000
namespace Ht
open PySem PySem.Spec PyProof.Rows L2 LS
section
variable {B:Addr->Prop} {prog:Program} {w:World} {A:Around} {E:A0} {s:Shared}
def Tps (h0 h:Heap):Prop:=∀b o,h0.get? b=some o->o.cls=.type "tuple" -> h.get? b=some o
theorem qU {R:Result->Shared->Prop} {I S l:Addr} {its:Array Value} {h0:Heap} {kf:Nat->av} (hh:A.handled=none) (hu:A.units+3<cLine) (nI:l≠I) (nS:S∉[I,l]) (new:∀b∈[S,I],h0.get? b=none)
  (hg:∀i v,its[i]?=some v->∃b,v=.ref b/\TK.IsT (au prog w) h0 (kf i) b/\(kf i).all byV2=false/\B b) (few:∀us:List av,us.Nodup->(∀x∈us,∃j,j<its.size/\kf j=x)->us.length<76) :
  ∀(m i:Nat) (s:Shared) (ks:List av),its.size-i=m->i<=its.size->(s.heap.IsListIter I l i/\s.heap.IsList l its)->Tps h0 s.heap->SetK prog w B s.heap S ks->(∀x,x∈ks↔∃j,j<i/\kf j=x) ->
   (∀s' ks',Moved [S,I] (λa b=>b=a) s s'->SetK prog w B s'.heap S ks'->(∀x,x∈ks'↔∃j,j<its.size/\kf j=x)->R (.ok (.ret .none)) s') ->
   codeAny (model prog w) A (.builtin "set.update.loop" ⟨[.ref S,.ref I],[]⟩) R s:=by
 have W:=(Walks.list (prog:=prog) (w:=w) (show A.in1.handled=none by simp[hh]) I l nI its).toS;have nSI:S≠I:=λz=>nS (by simp[z]);have more:∀b∈[I],b∈[S,I]:=λb z=>Qo _ z
 have setk:∀{s s':Shared} {ks:List av},Tps h0 s.heap->Moved [I] (λa b=>b=a) s s'->s.heap.IsListIter I l 0\/True->SetK prog w B s.heap S ks->(∀o,s.heap.get? I=some o->o.cls≠.type "tuple")->SetK prog w B s'.heap S ks:=λ{s s' ks} tp mv _ q ni=>by
  obtain⟨es,ep,t,ks',h1,h2,h3⟩:=q;exact⟨es,ep,t,ks',mv.heap S _ (by simpa using nSI) h1,Paired.mapT h2 λe k ⟨b,e1,e2,e3⟩=>⟨b,e1,Tm.bX e2 λc o hc ht=>mv.heap c o (λz=>by simp at z;subst z;exact ni o hc ht) hc,e3⟩,h3⟩
 have notI:∀{s:Shared} {i:Nat},s.heap.IsListIter I l i->∀o,s.heap.get? I=some o->o.cls≠.type "tuple" := λ⟨o',h1,h2,_⟩ o e z=>by
  rw[h1]at e;cases e;rw[h2]at z;exact absurd (Value.type.inj z) (by decide)
 have tps:∀{s s':Shared},Tps h0 s.heap->Moved [S,I] (λa b=>b=a) s s'->Tps h0 s'.heap:=λtp mv b o e ht=>mv.heap b o (λz=>by rw[new b z]at e;cases e) (tp b o e ht);intro m
 induction m with
 | zero =>
  intro i s ks em hi st tp q mm fin;obtain rfl:i=its.size:=by omega
  refine Xy F.entry_set_update_loop ?_;rw[Xj F.plain_set_update_loop _];show wpAny _ A.in1 (pyNext (.ref I) >>= _) _ _ s;exact Qa (W.done s _ _ st λs1 mv=>Qf (fin s1 ks (mv.mono more) (setk tp mv (.inr trivial) q (notI st.1)) mm))
 | succ m ih =>
 intro i s ks em hi st tp q mm fin;have lt:i<its.size:=by omega
 refine Xy F.entry_set_update_loop ?_;rw[Xj F.plain_set_update_loop _];show wpAny _ A.in1 (pyNext (.ref I) >>= _) _ _ s;refine Qa (W.item i s _ _ lt st λv s1 hP st1 mv=>?_);obtain⟨b,rfl,hb,tx,hB⟩:=hg i v hP;have q1:=setk tp mv (.inr trivial) q (notI st.1);have tp1:=tps tp (mv.mono more);have hb1:TK.IsT (au prog w) s1.heap (kf i) b:=Tm.bX hb tp1;show wpAny _ A.in1 (holding [Value.ref b] (setAdd S (.ref b)) >>= _) _ _ s1;refine Qa (Q9 ?_);unfold setAdd;refine Q9 (Qa ((bg prog w).pyHash (k:=kf i) (show A.units+1+1<cLine by omega) hb1 ?_));have kn:ks.Nodup:=let ⟨_,_,_,_,_,_,_,n,_⟩:=q;n;refine yf (s:={ s1 with toks:=s1.toks+(bg prog w).draws (kf i) }) (show A.units+1+1<cLine by omega) q1 hb1 tx hB (few ks kn λx hx=>by obtain⟨j,hj,e⟩:=(mm x).mp hx;exact⟨j,by omega,e⟩) λh2 _ ks2 sb q2 _ m2=>?_
 have mv2:Moved [S,I] (λa b=>b=a) s { s1 with heap:=h2,toks:=s1.toks+(bg prog w).draws (kf i) }:=(mv.mono more).then_heap (QI _ _) λb o z e=>by
  rw[sb.2 b (λy:b=S=>z (by rw[y];exact Xl))];exact e
 refine Qf ⟨plainId_quiet F.plain_set_update_loop _,ih (i+1) _ ks2 (by omega) lt (W.frame _ s1 _ _ st1 (QI _ _) λb z o e=>?_) (tps tp mv2) q2 (λx=>?_) λs3 ks3 mv3 q3 m3=>fin s3 ks3 (Moved.trans W.gtrans mv2 mv3) q3 m3⟩
 ·rw[sb.2 b (λy:b=S=>nS (by rw[<-y];exact z))];exact e
 rw[m2,mm]
 constructor
 ·rintro(⟨j,hj,e⟩|e)
  ·exact⟨j,by omega,e⟩
  exact⟨i,by omega,e.symm⟩
 rintro⟨j,hj,e⟩;rcases Nat.lt_succ_iff_lt_or_eq.mp hj with z|z
 ·exact .inl ⟨j,z,e⟩
 subst z;exact .inr e.symm
theorem call_set {l:Addr} {its:Array Value} {kf:Nat->av} {Q:A0} (hh:A.handled=none) (hu:A.units+8<cLine) (hl:s.heap.IsList l its)
  (hg:∀i v,its[i]?=some v->∃b,v=.ref b/\TK.IsT (au prog w) s.heap (kf i) b/\(kf i).all byV2=false/\B b) (few:∀us:List av,us.Nodup->(∀x∈us,∃j,j<its.size/\kf j=x)->us.length<76)
  (h:∀(h1:Heap) (tk:Nat) (ks:List av),SetK prog w B h1 s.heap.objs.size ks->(∀x,x∈ks↔∃j,j<its.size/\kf j=x)->(∀b o,s.heap.get? b=some o->h1.get? b=some o)->Q (.ref s.heap.objs.size) { s with heap:=h1,toks:=tk }) :
  wpAny (model prog w) A (call (.type "set") [.ref l]) Q E s:=by
 refine LG.call_set_gen (G:=λh S=>∃ks,SetK prog w B h S ks/\∀x,x∈ks↔∃j,j<its.size/\kf j=x) hh hl (λI S s0 R kp hS hI nI nS st g fin=>?_) λh1 tk ⟨ks,q,m⟩ kp=>h h1 tk ks q m kp
 have nw:∀b∈[S,I],s.heap.get? b=none:=λb hb=>by
  simp only[Qh,QA,Xk]at hb;rcases hb with rfl|rfl
  ·exact Heap.get?_none_of_le hS
  exact Heap.get?_none_of_le hI
 exact qU (A:=A.in1.in1) (h0:=s.heap) (kf:=kf) (by simp[hh]) (show A.units+1+1+3<cLine by omega) nI nS nw hg few (its.size-0) 0 s0 [] rfl (QP _) st (λb o e _=>kp b o e) (SetK.new g) (λx=>by simp) λs' ks' mv q m=>fin s' mv ⟨ks',q,m⟩
theorem SetK.raw {h:Heap} {a:Addr} {ks:List av} (x:SetK prog w B h a ks):∃es ep t ks',h.get? a=some (tT es ep t)/\Paired (El prog w B h) es.toList ks'/\ks'.Perm ks/\ks.Nodup/\es.size=ks.length/\es.size<scanBound/\t.fits es.size=true/\Led w t es.size:=by
 obtain⟨es,ep,t,ks',h1,h2,h3,h4,h5,h6,h7⟩:=x;have t127:t.mask<=127:=by rcases h5.msk with e|e|e <;> omega
 refine⟨es,ep,t,ks',h1,h2,h3,h4,by rw[<-Ql,Xi h2,h3.length_eq],by unfold scanBound;omega,?_,h7⟩;have:=h5.fits (by rw[Qd,Ql];omega);rwa [Qd,Ql]at this
theorem els_refs {h:Heap}:∀{od:List (Int × Value)} {ks:List av},Paired (El prog w B h) od ks->∃bs:A3,od.map (·.2)=bs.map Value.ref/\Paired (λb k=>TK.IsT (au prog w) h k b/\B b) bs ks
 | _,_,.nil=>⟨[],rfl,.nil⟩
 | _,_,.cons ⟨b,e1,e2,e3⟩ t=>by
  obtain⟨bs,h1,h2⟩:=els_refs t;exact⟨b::bs,by rw[Qu,Qu,e1,h1],.cons ⟨e2,e3.2⟩ h2⟩
end
end Ht
namespace L2
open PySem PySem.Spec PyProof.Rows PySem.Calls
theorem Inv.drawn {X:Cx} {pins:A1} {U:List (Option V)} {H:Hp} {s:Shared} (I:Inv X pins U H s) (d:Drawn):Inv X pins U H { s with drawn:=d }:=⟨I.ok,I.os,I.bare,I.base,I.loc,I.cell,I.free,I.freeC,I.pin,I.hok,I.len⟩
section
variable {X:Cx} {a:Expr} {ta:TA} {p p1 pos pos1:Pos}
def nB (K:PySem.W.Frag) (H:Hp) (vs:List V) (ks:List av):Prop:=∃(l:Addr) (bs:A3),vs=[.ref l]/\SqL K H l (bs.map V.ref)/\KsA H bs ks/\(∀k∈ks,k.all Ht.byV2=false)/\∀us:List av,us.Nodup->(∀x∈us,x∈ks)->us.length<64
def iG (K:PySem.W.Frag) (ta:TA):TE:=λU H Q=>ta U H λvs H1=>∃(ks:List av) (b:Bool),nB K H1 vs ks/\tL b ks/\∀(p:Addr) (bs':A3) (us:List av),H1 p=none->KsA H1 bs' us->us.Nodup->(∀x,x∈us↔x∈ks)->us.Pairwise leF->Q (.ref p) (upd H1 p (.lst (bs'.map V.ref)))
theorem qT {pins:A1} {U:St} {H:Hp} {s:Shared} {us:List Value} {vs:List V} {ks:List av} {Q:A0} (hc:X.calm=true) (hu:X.A.units+8<cLine) (I:Inv X pins U H s) (r:aO vs us) (h:nB X.K H vs ks)
  (q:∀(h1:Heap) (tk:Nat) (ks':List av),Ht.SetK X.prog X.w (λb=>bK H (cV H b) b) h1 s.heap.objs.size ks'->(∀x,x∈ks'↔x∈ks)->(∀b o,s.heap.get? b=some o->h1.get? b=some o)->Q (.ref s.heap.objs.size) { s with heap:=h1,toks:=tk }) :
  wpAny (model X.prog X.w) X.A (call (.type "set") us) Q X.xe s:=by
 obtain⟨l,bs,rfl,hl,ka,tx,few⟩:=h;obtain⟨u1,rfl,ru1⟩:=c9 r;cases ru1;obtain⟨its,rv,pl,_⟩:=I.list hl;have ei:=eV rv;have bl:=Xi ka;have zz:its.toArray.size=ks.length:=by rw[Qi,ei,Qd,bl]
 obtain⟨ek,tk⟩:=ka.tk
 have kfm:∀x,(∃j,j<its.toArray.size/\ks.getD j []=x)↔x∈ks:=λx=>by
  rw[zz]
  constructor
  ·rintro⟨j,hj,rfl⟩;rw[Qy,Qc hj];exact Xb hj
  intro hx;obtain⟨j,hj,e⟩:=Q8 hx;exact⟨j,hj,by rw[Qy,Qc hj];exact e⟩
 refine Ht.call_set (B:=λb=>bK H (cV H b) b) (its:=its.toArray) (kf:=λi=>ks.getD i []) (I.ok.hd hc) hu pl.isList (λi v hv=>?_) (λus nd h=>Nat.lt_trans (few us nd λx hx=>(kfm x).mp (h x hx)) (by decide)) λh1 tk ks' q1 m kp=>q h1 tk ks' q1 (λx=>(m x).trans (kfm x)) kp;have hv:its[i]?=some v:=by simpa using hv
 rw[ei,Qs]at hv;obtain⟨b,hb,rfl⟩:=Xv.mp hv;have hi:=(Qe.mp hb).1;have ej:ks[i]?=some (cV H b):=by rw[ek,Qs,hb];rfl
 have eg:ks.getD i []=cV H b:=by rw[Qy,ej];rfl
 have tb:=tk b (Qk hb);rw[eg];exact⟨b,rfl,cX I.hok tb,tx _ (Qk ej),tb⟩
theorem kP (hc:X.calm=true) (hu:X.A.units+8<cLine) (hg:Gl X "sorted") (hm:X.mg "sorted" = none) (hg1:Gl X "set") (hm1:X.mg "set" = none) (ha:PA X [a] ta) (hs:starEach [a] X.env=[(false,eval a X.env)]:=by rfl)
  (he:starEach [.Call (.Name "set" p1) [a] [] pos1] X.env=[(false,eval (.Call (.Name "set" p1) [a] [] pos1) X.env)]:=by rfl):PE X (.Call (.Name "sorted" p) [.Call (.Name "set" p1) [a] [] pos1] [] pos) (iG X.K ta):=by
 intro pins s U H Q I h;refine wpAny_Call_Name_kw (d8 I hg hm PyProof.Rows.boot_sorted ?_);refine PyProof.Rows.callWith_builtin1 ?_ he rfl;rw[he];show wpAny _ _ (spliced ((false,eval (.Call (.Name "set" p1) [a] [] pos1) X.env)::backTo pos [])) _ _ s;refine XR ?_;refine Call_ (d8 I hg1 hm1 PyProof.Rows.boot_set (XC (thn (ha pos1 pins s U H _ I h) λus s1 z=>?_) hs rfl));obtain⟨vs,H1,I1,r1,ks,b,so,sp,q⟩:=z;have fw:∀us:List av,us.Nodup->(∀x∈us,x∈ks)->us.length<64:=let ⟨_,_,_,_,_,_,few⟩:=so;few;refine qT hc hu I1 r1 so λh1 tk ks' sk mm kp=>Calls.spliced_nil ?_;obtain⟨es,ep,t,ks2,g1,g2,g3,g4,g5,g6,g7,g8⟩:=sk.raw;refine Calls.call_function_entry kind_sorted plain_sorted entry_sorted (args_sorted1 _) ?_;unfold Builtin.«sorted»;refine Qa (m:=checkCount "sorted" 1 1 _) (Qf ?_);refine Qa (LG.collect_set (A:=X.A.in1) (s:={ s1 with heap:=h1,toks:=tk }) (show X.A.in1.handled=none by simp[I1.ok.hd hc]) g1 rfl rfl g6 g7 g8 λh2 tk2 d od po kp2 z2=>?_);obtain⟨ks3,e3,p3⟩:=Ht.paired_perm po g2;obtain⟨bs,ev,pb⟩:=Ht.els_refs e3;have lb:bs.length=ks'.length:=by rw[Xi pb,p3.length_eq,g3.length_eq]
 have l64:ks'.length<64:=fw ks' g4 λx hx=>(mm x).mp hx;rw[ev];refine Qa (wpAny_newList ?_ (by rw[Qd,XH];omega))
 have kb:KsA H1 bs (bs.map (cV H1))/\ks3=bs.map (cV H1):=by
  have I3:=I1.kept (t':=tk) kp;clear ev lb e3 p3
  induction pb with
  | nil=>exact⟨.nil,rfl⟩
  | @cons b k bs ks r _ ih =>
  obtain⟨i1,i2⟩:=ih;refine⟨.cons r.2 i1,?_⟩;have:=(cX I3.hok r.2).inj r.1;rw[Qu,this,<-i2]
 obtain⟨kb,ek3⟩:=kb;have mem:∀c∈bs,cV H1 c∈ks:=λc hc=>(mm _).mp (g3.mem_iff.mp (p3.mem_iff.mp (by rw[ek3];exact Qj.mpr ⟨c,hc,rfl⟩)));have tkb:=kb.tk.2;have I3:=I1.kept (t':=tk) kp;have hoL:(h2.push (seqObj "list" (bs.map Value.ref).toArray 0)).get? h2.objs.size=some (seqObj "list" (bs.map Value.ref).toArray 0):=Qq _ rfl
 refine Qa (Q9 (Q5 (s:={ s1 with heap:=h2.push (seqObj "list" (bs.map Value.ref).toArray 0),toks:=tk2,drawn:=d }) slot_list_sort ⟨_,hoL,rfl⟩ entry_list_sort
  (Tm.gS (up:=λA=>A.units<cLine) hoL (Tm.lN (b:=b) hoL (λz=>absurd (Value.type.inj z) (by decide)) (λc hc=>Tm.bX (cX I3.hok (tkb c hc)) λb o e _=>Qb _ (kp2 _ _ e)) ⟨λx hx y hy=>sp.1 _ (mem x hx) _ (mem y hy),λx hx=>sp.2 _ (mem x hx)⟩) (show X.A.units+1+1<cLine by omega) (by rw[Qd,lb];exact l64) λout p1 p2=>⟨_,rfl,?_⟩) (args_list_sort _)))
 obtain⟨m,at'⟩:=Tm.eK (vs:=bs.map Value.ref) (out:=out) hoL;obtain⟨bs',pm,eo⟩:=iN p1;rw[eo,QY]at p2
 have so':(bs'.map (cV H1)).Pairwise leF:=by
  rw[QY];refine p2.imp_of_mem λ{x y} hx hy hq=>?_;have hq:Tm.lb (((Tm.lx bs (cV H1)).keyOf (.ref y)).getD []) (((Tm.lx bs (cV H1)).keyOf (.ref x)).getD [])=false:=hq;rw[Tm.fA _ (pm.mem_iff.mp hx),Tm.fA _ (pm.mem_iff.mp hy)]at hq;exact hq
 have pmk:(bs'.map (cV H1)).Perm ks':=((pm.map _).trans (by rw[<-ek3];exact p3)).trans g3;have I4:=(I3.kept (t':=tk2) kp2).drawn d
 exact Qf ⟨_,rfl,.ref h2.objs.size,_,I4.laid (o:=.lst (bs'.map V.ref)) (t':=tk2) (λb o e=>Tm.dW (QC (Qp e)) (Qb _ e)) (Qg _) ⟨by rw[Qd,pm.length_eq,lb,XH];omega,out.toList,m,by rw[eo];exact fL _,by rw[Array.toArray_toList];exact at'⟩,rfl,
  q _ bs' _ (I4.hok.fresh (Qg _)) (mS λb hb=>tkb b (pm.mem_iff.mp hb)) (pmk.nodup_iff.mpr g4) (λx=>pmk.mem_iff.trans (mm x)) so'⟩
end
end L2
set_option maxHeartbeats 4000000
namespace L2
open PySem PySem.Spec PyProof.Rows
variable {pins:A1}
theorem Inv.turnedL {X:Cx} {U:St} {H:Hp} {s:Shared} {h':Heap} {t':Nat} {T:Addr} {o:HO} {ch:A3} (I:Inv X pins U H s) (k:∀b o,b∉ch->s.heap.get? b=some o->h'.get? b=some o)
  (f:∀b∈ch,eB X pins H b) (hT:s.heap.objs.size<=T) (new:bo X.prog X.w (upd H T o) h' T o):Inv X pins U (upd H T o) { s with heap:=h',toks:=t' }:=by
 have hn:H T=none:=I.hok.fresh hT;have nT:∀b u,s.heap.get? b=some u->b≠T:=λb u q=>QC (QL (Qp q) hT);have n:∀b u,H b=some u->b∉ch:=λb u q z=>by rw[(f b z).1]at q;cases q
 refine I.step (g':=s.gens) (d':=s.drawn) (ch:=ch) (λb hb=>?_) (λb u _ _ hc q _=>k b u hc q) (λb u _ _ hc q _=>⟨u.slots,k b u hc q⟩) (λb u _ q n=>by rw[ah (nT b u q)];exact n)
  (λb u hc q=>⟨u,k b u hc q⟩) (λb xs q=>by rw[ah (am q hn)];exact q) (λb u xs q=>by rw[ah (am q hn)];exact q) (λb ps q=>⟨#[],by rw[ah (am q hn),q];simp⟩) (λm hm=>?_) (λb u q=>?_) I.bare
 ·obtain⟨_,a2,_,a4,a5,a6⟩:=f b hb;exact⟨a4,a2,a5,a6⟩
 ·obtain⟨ob,es,ep,ho,r⟩:=hm;exact⟨ob,es,ep,k _ ob (λz=>(f _ z).2.1 rfl) ho,r⟩
 by_cases hb:b=T
 ·subst hb;rw[ag]at q;cases q;exact new
 rw[ah hb]at q;refine(I.hok b u q).stay (λc v hc z=>k c v ?_ z) (λc z=>by rw[ah (am z hn)];exact z) λc xs z=>by rw[ah (am z hn)];exact z
 rcases hc with z|z
 ·rw[z];exact n b u q
 exact n c _ z
theorem Inv.turnedE {X:Cx} {U:St} {H:Hp} {s:Shared} {h':Heap} {t':Nat} {ch:A3} (I:Inv X pins U H s) (k:∀b o,b∉ch->s.heap.get? b=some o->h'.get? b=some o)
  (f:∀b∈ch,eB X pins H b):Inv X pins U H { s with heap:=h',toks:=t' }:=by
 have n:∀b u,H b=some u->b∉ch:=λb u q z=>by rw[(f b z).1]at q;cases q
 refine I.step (g':=s.gens) (d':=s.drawn) (ch:=ch) (λb hb=>?_) (λb u _ _ hc q _=>k b u hc q) (λb u _ _ hc q _=>⟨u.slots,k b u hc q⟩) (λb u _ q n=>n)
  (λb u hc q=>⟨u,k b u hc q⟩) (λb xs q=>q) (λb u xs q=>q) (λb ps q=>⟨#[],by rw[q];simp⟩) (λm hm=>?_) (λb u q=>?_) I.bare
 ·obtain⟨_,a2,_,a4,a5,a6⟩:=f b hb;exact⟨a4,a2,a5,a6⟩
 ·obtain⟨ob,es,ep,ho,r⟩:=hm;exact⟨ob,es,ep,k _ ob (λz=>(f _ z).2.1 rfl) ho,r⟩
 refine(I.hok b u q).stay (λc v hc z=>k c v ?_ z) (λc z=>z) λc xs z=>z;rcases hc with z|z
 ·rw[z];exact n b u q
 exact n c _ z
section
variable {X:Cx} {elts:List Expr} {k:Nat} {tpos:Pos}
end
section
variable {X:Cx}
end
end L2
namespace LZg
open PySem LZ
section
variable {prog:Program} {w:World} {A:Around} {E:A0} {s:Shared}
variable {Q:A0} {x f0 v u a:Value} {its xs ys:Array Value} {i:Nat} {c l b z i1 i2 m:Addr}
theorem mK {t:Addr} (hc:s.heap.IsTupleIter c t i) (ht:s.heap.IsTuple t its) (hx:its[i]?=some x)
  (hQ:∀h',h'.IsTupleIter c t (i+1)->Heap.SameBut c s.heap h'->Q x { s with heap:=h' }):wpAny (model prog w) A (Builtin.SmallTypes.nextOf (.ref c)) Q E s:=by
 obtain⟨o,ho,h1,h2⟩:=id hc;obtain⟨ot,hot,_,nt,hdt⟩:=ht;unfold Builtin.SmallTypes.nextOf;refine Qa (Xo (name:=Str.ofString "__next__") hc.typeIs F.slot_tuple_iterator_next (Q5 F.slot_tuple_iterator_next hc.typeIs F.entry_tuple_iterator_next ?_ (F.args_tuple_iterator_next_1 _)));show wpAny _ _ (field (.ref c) 0 >>= _) _ _ s;refine Qa (Xu ho h2 (x:=.ref t) rfl ?_);rw[Qr (show ¬((Value.ref t==Value.none)=true) from Qm)];show wpAny _ _ (field (.ref c) 1 >>= _) _ _ s;refine Qa (Xu ho h2 (x:=.int i 0) rfl ?_);show wpAny _ _ (seqItems? _ >>= _) _ _ _;refine Qa (Xx hot hdt ?_);simp only[QX,hx];refine Qa (wpAny_setField ho h2 (by simp) (Qf ⟨x,rfl,Qf (hQ _ ⟨_,Xe _ ho (Obj.isFreed_of_fields (Xw h2 _)),(Obj.cls_mapFields ..).trans h1,?_⟩ (Xf ..))⟩));rw[Xw h2];simp[rawInt]
theorem pL {t:Addr} (hh:A.handled=none) (hc:s.heap.IsTupleIter c t i) (ht:s.heap.IsTuple t its) (hx:its[i]?=none)
  (hE:∀h' e,Heap.ExtBut c s.heap h'->(∃o,h'.get? e=some o/\o.cls=.type "StopIteration")->E (.ref e) { s with heap:=h' }):wpAny (model prog w) A (Builtin.SmallTypes.nextOf (.ref c)) Q E s:=by
 obtain⟨o,ho,h1,h2⟩:=id hc;obtain⟨ot,hot,_,nt,hdt⟩:=ht;unfold Builtin.SmallTypes.nextOf;refine Qa (Xo (name:=Str.ofString "__next__") hc.typeIs F.slot_tuple_iterator_next (Q5 F.slot_tuple_iterator_next hc.typeIs F.entry_tuple_iterator_next ?_ (F.args_tuple_iterator_next_1 _)));show wpAny _ _ (field (.ref c) 0 >>= _) _ _ s;refine Qa (Xu ho h2 (x:=.ref t) rfl ?_);rw[Qr (show ¬((Value.ref t==Value.none)=true) from Qm)];show wpAny _ _ (field (.ref c) 1 >>= _) _ _ s;refine Qa (Xu ho h2 (x:=.int i 0) rfl ?_);show wpAny _ _ (seqItems? _ >>= _) _ _ _;refine Qa (Xx hot hdt ?_);simp only[QX,hx];refine Qa (wpAny_rule (Qa (wpAny_setField ho h2 (by simp) ?_)));refine Qa (m:=newExc (.type "StopIteration") []) ?_;simp only[newExc,newTuple];refine Qa (XE ?_ (by size_fits));refine Qa (m:=firstArgMember _ _) (wpAny_of_eq (a:=Value.none) rfl ?_);refine XE ?_ (by size_fits);simp only[raiseNew];refine Qa (wpAny_handled ?_);rw[show A.in1.handled=none from hh];exact Qa (Qf (wpAny_throw (hE _ _ (((Xf ..).extBut.push _).push _) ⟨_,Qq _ rfl,rfl⟩)))
def SqOb:Bool->Heap->Addr->Array Value->Prop
 | true,h,l,xs=>h.IsTuple l xs
 | false,h,l,xs=>h.IsList l xs
def SqIt:Bool->Heap->Addr->Addr->Nat->Prop
 | true,h,c,l,i=>h.IsTupleIter c l i
 | false,h,c,l,i=>h.IsListIter c l i
def sJ (t:Bool):String:=if t then "tuple_iterator" else "list_iterator"
variable {h h':Heap}
theorem SqIt.of {t:Bool} (g:h.get? c=some { cls:=.type (sJ t),data:=.fields #[.ref l,.int i 0] }):SqIt t h c l i:=by
 cases t <;> exact⟨_,g,rfl,rfl⟩
theorem SqIt.raw {t:Bool} (x:SqIt t h c l i):∃o,h.get? c=some o/\o.data=.fields #[.ref l,.int i 0]:=by
 cases t <;> (obtain⟨o,h1,_,h3⟩:=x;exact⟨o,h1,h3⟩)
theorem SqIt.at {t:Bool} (x:SqIt t h c l i) (k:∀o,h.get? c=some o->h'.get? c=some o):SqIt t h' c l i:=by
 cases t <;> (obtain⟨o,h1,r⟩:=x;exact⟨o,k _ h1,r⟩)
theorem SqIt.extBut {t:Bool} (x:SqIt t h c l i) (hs:Heap.ExtBut b h h') (n:c≠b):SqIt t h' c l i:=x.at λo e=>hs c o n e
theorem SqOb.extBut {t:Bool} (x:SqOb t h l xs) (hs:Heap.ExtBut b h h') (n:l≠b):SqOb t h' l xs:=by
 cases t <;> (obtain⟨o,h1,r⟩:=x;exact⟨o,hs l o n h1,r⟩)
theorem SqOb.push {t:Bool} (x:SqOb t h l xs) (o:Obj):SqOb t (h.push o) l xs:=by
 cases t <;> (obtain⟨o,h1,r⟩:=x;exact⟨o,Qb _ h1,r⟩)
theorem SqOb.lt {t:Bool} (x:SqOb t h l xs):l<h.objs.size:=by
 cases t <;> (obtain⟨o,h1,r⟩:=x;exact Qp h1)
theorem sH {t:Bool} (x:SqOb t s.heap l xs) (h:Q (.ref s.heap.objs.size) { s with heap:=s.heap.push { cls:=.type (sJ t),data:=.fields #[.ref l,.int 0 0] } }):wpAny (model prog w) A (pyIter (.ref l)) Q E s:=by
 cases t with
 | true=>exact wpAny_pyIter_tuple x h
 | false=>exact wpAny_pyIter_list x h
theorem oB {t:Bool} (hc:SqIt t s.heap c l i) (ht:SqOb t s.heap l its) (hx:its[i]?=some x)
  (hQ:∀h',SqIt t h' c l (i+1)->Heap.SameBut c s.heap h'->Q x { s with heap:=h' }):wpAny (model prog w) A (Builtin.SmallTypes.nextOf (.ref c)) Q E s:=by
 cases t with
 | true=>exact mK hc ht hx hQ
 | false=>exact wpAny_nextOf_list_item hc ht hx hQ
theorem mI {t:Bool} (hh:A.handled=none) (hc:SqIt t s.heap c l i) (ht:SqOb t s.heap l its) (hx:its[i]?=none)
  (hE:∀h' e,Heap.ExtBut c s.heap h'->(∃o,h'.get? e=some o/\o.cls=.type "StopIteration")->E (.ref e) { s with heap:=h' }):wpAny (model prog w) A (Builtin.SmallTypes.nextOf (.ref c)) Q E s:=by
 cases t with
 | true=>exact pL hh hc ht hx hE
 | false=>exact wpAny_nextOf_list_end hh hc ht hx hE
variable {f1 t1 t2:Bool}
theorem next_end {TI TO:Addr} {k:Nat} {a b:Value} {Q:Option Value->Shared->Prop} (hh:A.handled=none) (D:Apart5 z TI TO i1 i2 l)
  (hz:IsZ s.heap z TI TO f0 f1) (hf:(f0=.none/\f1=false/\∃a b,IsPair s.heap TO a b)\/∃(T:Addr) (oT:Obj),f0=rawInt (T:Nat)/\s.heap.get? T=some oT) (hTI:IsPair s.heap TI (.ref i1) (.ref i2)) (h1:SqIt t1 s.heap i1 l k) (hl:SqOb t1 s.heap l xs) (hv:xs[k]?=none)
  (hQ:∀h',(∀c o,c≠z->c≠i1->s.heap.get? c=some o->h'.get? c=some o)->Q none { s with heap:=h' }):wpAny (model prog w) A (pyNext (.ref z)) Q E s:=by
 have hTy:s.TypeIs (.ref z) "zip" := ⟨_,hz,rfl⟩;unfold pyNext
 refine Qa (wpAny_attempt (Xo (name:=Str.ofString "__next__") hTy F.slot_zip_next
  (Q5 F.slot_zip_next hTy F.entry_zip_next ?_ (F.args_zip_next_1 _))))
 show wpAny _ _ (field (.ref z) 2 >>= _) _ _ _;refine Qa (Xu hz rfl (x:=.bool false) rfl ?_);show wpAny _ _ (field (.ref z) 3 >>= _) _ _ _;refine Qa (Xu hz rfl (x:=.ref TI) rfl ?_);refine Qa (Xx hTI rfl ?_);show wpAny _ _ (Builtin.SmallTypes.ownedTupleIsFree (.ref z) >>= _) _ _ _;refine Qa ?_;unfold Builtin.SmallTypes.ownedTupleIsFree;refine Qa (Xu hz rfl (x:=f0) rfl ?_)
 have fin:∀h' e,(∀c o,c≠z->c≠i1->s.heap.get? c=some o->h'.get? c=some o)->(∃o,h'.get? e=some o/\o.cls=.type "StopIteration") ->
   wpAny (model prog w) A (do if <-isInstance (.ref e) (.type "StopIteration") then pure none else throw (.ref e)) Q E { s with heap:=h' }:=λh' e hk ⟨o,ho,hc⟩ =>
  Qa (wpAny_isInstance (T := "StopIteration") (b:=true) ⟨o,ho,hc⟩ isSubtype_stop (Qf (hQ _ hk)))
 rcases hf with⟨e1,e2,a,b,hTO⟩|⟨T,oT,e1,hT⟩
 ·subst e1 e2;refine Qf ?_;simp only[if_true];refine Qa (wpAny_rule ?_);refine Qa (Xu hz rfl (x:=.ref TO) rfl ?_);refine Qa (XI hz (by simp) λh₁ hz1 hs₁=>?_)
  replace hz1:IsZ h₁ z TI TO .ellipsis false:=hz1
  refine Qa ?_;simp only[List.zipIdx_cons,List.zipIdx_nil,List.forIn_cons,List.forIn_nil];refine Qa (Qa (wpAny_onRaise ?_));show wpAny _ _ (Builtin.SmallTypes.nextOf (.ref i1) >>= _) _ _ _;refine Qa (mI hh (h1.extBut hs₁.extBut D.i1z) (hl.extBut hs₁.extBut D.lz) hv λh₂ e hs₂ he=>?_);obtain⟨oe,hoe,hce⟩:=he;have hz₂:IsZ h₂ z TI TO .ellipsis false:=hs₂ _ _ D.i1z.symm hz1;have hez:e≠z:=λx=>by subst x;rw[hz₂]at hoe;cases hoe;simp at hce
  refine XI hz₂ (by simp) λh₃ _ hs₃=>?_;exact fin h₃ e (λc o c1 c3 x=>hs₃.extBut _ _ c1 (hs₂ _ _ c3 (hs₁.extBut _ _ c1 x))) ⟨oe,hs₃.extBut _ _ hez hoe,hce⟩
 subst e1;show wpAny _ _ (loadIfAlive ((T:Int).toNat) >>= _) _ _ _;rw[QX];refine Qa (vI hT ?_);simp only[Option.isNone_some,QE,Xs];refine Qa (Xu hz rfl (x:=.bool f1) rfl ?_)
 cases f1 with
 | false =>
  simp only[show (Value.bool false != Value.bool true)=true from rfl,if_true];refine Qa (XI hz (by simp) λh₁ hz1 hs₁=>Qf ?_)
  replace hz1:IsZ h₁ z TI TO (rawInt T) true:=hz1
  simp only[QE,Xs,List.forIn_toArray,List.forIn_cons,List.forIn_nil];refine Qa (Qa (Qa (Q9 ?_)));show wpAny _ _ (Builtin.SmallTypes.nextOf (.ref i1) >>= _) _ _ _;refine Qa (mI hh (h1.extBut hs₁.extBut D.i1z) (hl.extBut hs₁.extBut D.lz) hv λh₂ e hs₂ he=>?_);exact fin h₂ e (λc o c1 c3 x=>hs₂ _ _ c3 (hs₁.extBut _ _ c1 x)) he
 | true =>
 simp only[show (Value.bool true != Value.bool true)=false from rfl,QE,Xs];refine Qf ?_;simp only[QE,Xs,List.forIn_toArray,List.forIn_cons,List.forIn_nil];refine Qa (Qa (Qa (Q9 ?_)));show wpAny _ _ (Builtin.SmallTypes.nextOf (.ref i1) >>= _) _ _ _;refine Qa (mI hh h1 hl hv λh₂ e hs₂ he=>?_);exact fin h₂ e (λc o c1 c3 x=>hs₂ _ _ c3 x) he
theorem next_first {TI TO:Addr} {k:Nat} {b:Value} {Q:Option Value->Shared->Prop} (D:Apart5 z TI TO i1 i2 l) (mz:m≠z) (mTO:m≠TO) (mi1:m≠i1) (mi2:m≠i2)
  (hz:IsZ s.heap z TI TO .none false) (hTI:IsPair s.heap TI (.ref i1) (.ref i2)) (hTO:IsPair s.heap TO a b) (h1:SqIt t1 s.heap i1 l k) (h2:SqIt t2 s.heap i2 m k) (hl:SqOb t1 s.heap l xs) (hm:SqOb t2 s.heap m ys) (hv:xs[k]?=some v) (hc:ys[k]?=some u)
  (hQ:∀h',IsZ h' z TI TO (rawInt s.heap.objs.size) false->(∃a b,IsPair h' TO a b)->SqIt t1 h' i1 l (k+1)->SqIt t2 h' i2 m (k+1)->IsPair h' s.heap.objs.size v u->h'.objs.size=s.heap.objs.size+1 ->
   (∀c o,c≠z->c≠TO->c≠i1->c≠i2->s.heap.get? c=some o->h'.get? c=some o)->Q (some (.ref s.heap.objs.size)) { s with heap:=h' }) :
  wpAny (model prog w) A (pyNext (.ref z)) Q E s:=by
 have hT:s.TypeIs (.ref z) "zip" := ⟨_,hz,rfl⟩;unfold pyNext
 refine Qa (wpAny_attempt (Xo (name:=Str.ofString "__next__") hT F.slot_zip_next
  (Q5 F.slot_zip_next hT F.entry_zip_next ?_ (F.args_zip_next_1 _))))
 show wpAny _ _ (field (.ref z) 2 >>= _) _ _ _;refine Qa (Xu hz rfl (x:=.bool false) rfl ?_);show wpAny _ _ (field (.ref z) 3 >>= _) _ _ _;refine Qa (Xu hz rfl (x:=.ref TI) rfl ?_);refine Qa (Xx hTI rfl ?_);show wpAny _ _ (Builtin.SmallTypes.ownedTupleIsFree (.ref z) >>= _) _ _ _;refine Qa ?_;unfold Builtin.SmallTypes.ownedTupleIsFree;refine Qa (Xu hz rfl (x:=.none) rfl (Qf ?_));simp only[if_true];refine Qa (wpAny_rule ?_);refine Qa (Xu hz rfl (x:=.ref TO) rfl ?_);refine Qa (XI hz (by simp) λh₁ hz1 hs₁=>?_)
 replace hz1:IsZ h₁ z TI TO .ellipsis false:=hz1
 refine Qa ?_;simp only[List.zipIdx_cons,List.zipIdx_nil,List.forIn_cons,List.forIn_nil];refine Qa (Qa (wpAny_onRaise ?_));show wpAny _ _ (Builtin.SmallTypes.nextOf (.ref i1) >>= _) _ _ _;refine Qa (oB (h1.extBut hs₁.extBut D.i1z) (hl.extBut hs₁.extBut D.lz) hv λh₂ h12 hs₂=>Qf ?_);have hTO2:IsPair h₂ TO a b:=hs₂.extBut _ _ D.TOi1 (hs₁.extBut _ _ D.TOz hTO);refine Qa (Xx hTO2 rfl ?_);refine Qa (wpAny_updateSeq_pair hTO2 λh₃ hTO3 hs₃=>?_)
 replace hTO3:IsPair h₃ TO v b:=hTO3
 refine Qa (wpAny_letGo (Qf ?_));refine Qa (Qa (wpAny_onRaise ?_));show wpAny _ _ (Builtin.SmallTypes.nextOf (.ref i2) >>= _) _ _ _;have h23:SqIt t2 h₃ i2 m k:=((h2.extBut hs₁.extBut D.i2z).extBut hs₂.extBut D.i12.symm).extBut hs₃.extBut D.TOi2.symm;refine Qa (oB h23 (((hm.extBut hs₁.extBut mz).extBut hs₂.extBut mi1).extBut hs₃.extBut mTO) hc λh₄ h24 hs4=>Qf ?_);have hTO4:IsPair h₄ TO v b:=hs4.extBut _ _ D.TOi2 hTO3;refine Qa (Xx hTO4 rfl ?_);refine Qa (wpAny_updateSeq_pair hTO4 λh₅ hTO5 hs5=>?_)
 replace hTO5:IsPair h₅ TO v u:=hTO5
 refine Qa (wpAny_letGo (Qf (Qf ?_)));refine Qa (Xx hTO5 rfl ?_);refine Qa (wpAny_newTuple ?_);have hsz:h₅.objs.size=s.heap.objs.size:=by rw[hs5.1,hs4.1,hs₃.1,hs₂.1,hs₁.1]
 have hz5:IsZ h₅ z TI TO .ellipsis false:=hs5.extBut _ _ D.TOz.symm (hs4.extBut _ _ D.i2z.symm (hs₃.extBut _ _ D.TOz.symm (hs₂.extBut _ _ D.i1z.symm hz1)))
 have hk₅:∀c o,c≠z->c≠TO->c≠i1->c≠i2->s.heap.get? c=some o->h₅.get? c=some o:=λc o c1 c2 c3 c4 e =>
  hs5.extBut _ _ c2 (hs4.extBut _ _ c4 (hs₃.extBut _ _ c2 (hs₂.extBut _ _ c3 (hs₁.extBut _ _ c1 e))))
 have h1₅:SqIt t1 h₅ i1 l (k+1):=((h12.extBut hs₃.extBut D.TOi1.symm).extBut hs4.extBut D.i12).extBut hs5.extBut D.TOi1.symm;have h25:SqIt t2 h₅ i2 m (k+1):=h24.extBut hs5.extBut D.TOi2.symm;have hzlt:z<h₅.objs.size:=Qp hz5;show wpAny _ _ (Builtin.SmallTypes.ownedTupleHandOut (.ref z) (.ref h₅.objs.size) >>= _) _ _ _;refine Qa ?_;unfold Builtin.SmallTypes.ownedTupleHandOut;have hz6:IsZ (h₅.push { cls:=.type "tuple", data:=.seq #[v,u] }) z TI TO .ellipsis false:=Qb _ hz5;refine Qa (XI hz6 (by simp) λh₇ hz7 hs7=>?_)
 replace hz7:IsZ h₇ z TI TO (rawInt h₅.objs.size) false:=hz7
 refine XI hz7 (by simp) λh₈ hz₈ hs8=>?_
 replace hz₈:IsZ h₈ z TI TO (rawInt h₅.objs.size) false:=hz₈
 have up:∀c o,c≠z->h₅.get? c=some o->h₈.get? c=some o:=λc o c1 e=>hs8.extBut _ _ c1 (hs7.extBut _ _ c1 (Qb _ e));have hT8:IsPair h₈ h₅.objs.size v u:=hs8.extBut _ _ (Nat.ne_of_gt hzlt) (hs7.extBut _ _ (Nat.ne_of_gt hzlt) (Qq _ rfl));have hz8:h₈.objs.size=h₅.objs.size+1:=by rw[hs8.1,hs7.1,Xr]
 rw[hsz]at hz₈ hT8 hz8;refine Qf ⟨_,rfl,Qf ?_⟩;show Q (some (.ref h₅.objs.size)) _;rw[hsz];exact hQ h₈ hz₈ ⟨_,_,up _ _ D.TOz hTO5⟩ (h1₅.at λo e=>up _ o D.i1z e) (h25.at λo e=>up _ o D.i2z e) hT8 hz8 λc o c1 c2 c3 c4 e=>up c o c1 (hk₅ c o c1 c2 c3 c4 e)
abbrev zH1 (t1:Bool) (h:Heap) (l:Addr):Heap:=h.push { cls:=.type (sJ t1),data:=.fields #[.ref l,.int 0 0] }
abbrev zH2 (t1 t2:Bool) (h:Heap) (l m:Addr):Heap:=(zH1 t1 h l).push { cls:=.type (sJ t2),data:=.fields #[.ref m,.int 0 0] }
abbrev zH3 (t1 t2:Bool) (h:Heap) (l m:Addr):Heap:=(zH2 t1 t2 h l m).push { cls:=.type "tuple", data:=.seq #[.ref h.objs.size,.ref (zH1 t1 h l).objs.size] }
abbrev zH4 (t1 t2:Bool) (h:Heap) (l m:Addr):Heap:=(zH3 t1 t2 h l m).push { cls:=.type "tuple", data:=.seq #[.none,.none] }
abbrev zH5 (t1 t2:Bool) (h:Heap) (l m:Addr):Heap:=(zH4 t1 t2 h l m).push { cls:=.type "zip", data:=.fields #[.none,.bool false,.bool false,.ref (zH2 t1 t2 h l m).objs.size,.ref (zH3 t1 t2 h l m).objs.size] }
theorem pM (t1 t2:Bool) (l m:Addr) (xs ys:Array Value) :
  Meets (Builtin.«zip.__new__» ⟨[.type "zip", .ref l,.ref m],[]⟩) (λ_ R s=>SqOb t1 s.heap l xs/\SqOb t2 s.heap m ys/\R (.ok (.ret (.ref (zH4 t1 t2 s.heap l m).objs.size))) { s with heap:=zH5 t1 t2 s.heap l m }) :=
 .of_wp λprog w A R s h=>by
  obtain⟨hp,g,d,tk,os⟩:=s;obtain⟨hl1,hl2,h⟩:=h;have hsub:=sub_zip;have hL1:SqOb t1 (Shared.heap ⟨hp,g,d,tk,os⟩) l xs:=hl1;have hL2:SqOb t2 (Shared.heap ⟨hp.push { cls:=.type (sJ t1),data:=.fields #[.ref l,.int 0 0] },g,d,tk,os⟩) m ys:=hl2.push _
  wp_walk using sH hL1,sH hL2
  exact⟨_,rfl,h⟩
theorem call_zip (hl1:SqOb t1 s.heap l xs) (hl2:SqOb t2 s.heap m ys)
  (h:∀h',IsZ h' (s.heap.objs.size+4) (s.heap.objs.size+2) (s.heap.objs.size+3) .none false->IsPair h' (s.heap.objs.size+2) (.ref s.heap.objs.size) (.ref (s.heap.objs.size+1)) ->
   IsPair h' (s.heap.objs.size+3) .none .none->SqIt t1 h' s.heap.objs.size l 0->SqIt t2 h' (s.heap.objs.size+1) m 0->h'.objs.size=s.heap.objs.size+5 ->
   (∀c o,s.heap.get? c=some o->h'.get? c=some o)->Q (.ref (s.heap.objs.size+4)) { s with heap:=h' }) :
  wpAny (model prog w) A (call (.type "zip") [.ref l,.ref m]) Q E s:=by
 refine callType_new F.called_zip (by decide) (F.typeCall_zip_2 _ _) (F.newCall_zip_2 _ _) (λobj=>F.args_object_init_3 obj _ _) F.entry_zip_new (pM t1 t2 l m xs ys) ⟨hl1,hl2,?_⟩;have z1:(zH1 t1 s.heap l).objs.size=s.heap.objs.size+1:=Xr ..;have z2:(zH2 t1 t2 s.heap l m).objs.size=s.heap.objs.size+2:=by rw[Xr,z1]
 have z3:(zH3 t1 t2 s.heap l m).objs.size=s.heap.objs.size+3:=by rw[Xr,z2]
 have z4:(zH4 t1 t2 s.heap l m).objs.size=s.heap.objs.size+4:=by rw[Xr,z3]
 have z5:(zH5 t1 t2 s.heap l m).objs.size=s.heap.objs.size+5:=by rw[Xr,z4]
 have g5:(zH5 t1 t2 s.heap l m).get? (zH4 t1 t2 s.heap l m).objs.size=some _:=Qq _ rfl;have g4:(zH5 t1 t2 s.heap l m).get? (zH3 t1 t2 s.heap l m).objs.size=some _:=Qb _ (Qq _ rfl);have g3:(zH5 t1 t2 s.heap l m).get? (zH2 t1 t2 s.heap l m).objs.size=some _:=Qb _ (Qb _ (Qq _ rfl));have g2:(zH5 t1 t2 s.heap l m).get? (zH1 t1 s.heap l).objs.size=some _:=Qb _ (Qb _ (Qb _ (Qq _ rfl)));have g1:(zH5 t1 t2 s.heap l m).get? s.heap.objs.size=some _:=Qb _ (Qb _ (Qb _ (Qb _ (Qq _ rfl))));show _/\_;rw[z2,z3,z4]at g5;rw[z1,z2]at g3;rw[z3]at g4;rw[z1]at g2;rw[z4]
 exact⟨⟨_,g5,rfl⟩,h _ g5 g3 g4 (SqIt.of g1) (SqIt.of g2) z5 λc o x =>
  Qb _ (Qb _ (Qb _ (Qb _ (Qb _ x))))⟩
end
end LZg
namespace L2
open PySem PySem.Spec PyProof.Rows
def SqS:Bool->PySem.W.Frag->Hp->Addr->List V->Prop
 | true,K,H,a,xs=>SqT K H a xs
 | false,K,H,a,xs=>SqL K H a xs
variable {xs ys:List V} {pins:A1}
theorem Inv.sq {X:Cx} {U:St} {H:Hp} {s:Shared} (I:Inv X pins U H s) {t:Bool} {a:Addr} (h:SqS t X.K H a xs):∃its:List Value,aO xs its/\LZg.SqOb t s.heap a its.toArray/\xs.length<=sizeLine:=by
 cases t with
 | true=>obtain⟨its,r,p,z⟩:=I.tuple h;exact⟨its,r,p,z⟩
 | false=>obtain⟨its,r,p,z⟩:=I.list h;exact⟨its,r,p.isList,z⟩
theorem Inv.sq_inj {X:Cx} {U:St} {H:Hp} {s:Shared} (I:Inv X pins U H s) {t:Bool} {a:Addr} (h1:SqS t X.K H a xs) (h2:SqS t X.K H a ys):xs=ys:=by
 cases t with
 | true=>exact I.tuple_inj h1 h2
 | false=>exact I.list_inj h1 h2
noncomputable def lY (t1 t2:Bool) (K:PySem.W.Frag) (a b:Addr):It :=
 ⟨λi H=>(∃xs x,SqS t1 K H a xs/\xs[i]?=some x)/\∃ys y,SqS t2 K H b ys/\ys[i]?=some y,λi H x H'=>∃T v u,H T=none/\x=.ref T/\H'=upd H T (.tup [v,u])/\(∀xs,SqS t1 K H a xs->xs[i]?=some v)/\∀ys,SqS t2 K H b ys->ys[i]?=some u,λi H=>∃xs,SqS t1 K H a xs/\xs.length<=i⟩
theorem pf {t1 t2:Bool} {P:Program} {w:World} {K:PySem.W.Frag} {elts:List Expr} {k:Nat} {pos:Pos} (a bb z TI TO i1 i2:Addr) (D:LZ.Apart5 z TI TO i1 i2 a) (mz:bb≠z) (mTO:bb≠TO) (mi1:bb≠i1) (mi2:bb≠i2) :
  Turn P w K (.Tuple elts k pos) (lY t1 t2 K a bb) [z,TI,TO,i1,i2] z (λi h=>LZ.IsZ h z TI TO .none false/\IsPair h TI (.ref i1) (.ref i2)/\(∃u v,IsPair h TO u v)/\LZg.SqIt t1 h i1 a i/\LZg.SqIt t2 h i2 bb i) where
 mem:=by simp
 obj:=λi h st b hb=>by
  obtain⟨hz,hTI,⟨u,v,hTO⟩,h1,h2⟩:=st;obtain⟨o1,g1,d1⟩:=h1.raw;obtain⟨o2,g2,d2⟩:=h2.raw;simp only[Qh,QA,Xk]at hb;rcases hb with rfl|rfl|rfl|rfl|rfl
  ·exact⟨_,hz,λv q=>by have q':Data.fields _=Data.cell v:=q;cases q'⟩
  ·exact⟨_,hTI,λv q=>by have q':Data.seq _ _=Data.cell v:=q;cases q'⟩
  ·exact⟨_,hTO,λv q=>by have q':Data.seq _ _=Data.cell v:=q;cases q'⟩
  ·exact⟨o1,g1,λv q=>by rw[d1]at q;cases q⟩
  exact⟨o2,g2,λv q=>by rw[d2]at q;cases q⟩
 keep:=λi h h' st kk=>by
  obtain⟨hz,hTI,⟨u,v,hTO⟩,h1,h2⟩:=st;exact⟨kk z (by simp) _ hz,kk TI (by simp) _ hTI,⟨u,v,kk TO (by simp) _ hTO⟩,h1.at λo e=>kk i1 (by simp) o e,h2.at λo e=>kk i2 (by simp) o e⟩
 item:=by
  intro X hP hw hK hc i pins s U H E I hf st hg;subst hP hw hK;obtain⟨⟨xs,y,hq,hx⟩,ys,y2,hq2,hx2⟩:=hg;obtain⟨its,rv,p,hsz⟩:=I.sq hq;obtain⟨u,hu,ru⟩:=rv.get hx;obtain⟨its2,rv2,p2,hsz2⟩:=I.sq hq2;obtain⟨u2,hu2,ru2⟩:=rv2.get hx2;obtain⟨hz,hTI,⟨a0,b0,hTO⟩,h1,h2⟩:=st;refine LZg.next_first D mz mTO mi1 mi2 hz hTI hTO h1 h2 p p2 (v:=u) (u:=u2) (by simpa using hu) (by simpa using hu2) λh' b1 b2 b3 b4 b5 b6 b7=>⟨_,rfl,?_⟩;refine wpAny_letOwnedTupleGo_zip (T:=s.heap.objs.size) b1 λh2' c1 c2=>?_
  have szT:∀c∈[z,TI,TO,i1,i2],c≠s.heap.objs.size:=λc hc=>by
   have:∃o,s.heap.get? c=some o:=by
    simp only[Qh,QA,Xk]at hc;obtain⟨o1,g1,_⟩:=h1.raw;obtain⟨o2,g2,_⟩:=h2.raw;rcases hc with rfl|rfl|rfl|rfl|rfl
    ·exact⟨_,hz⟩
    ·exact⟨_,hTI⟩
    ·exact⟨_,hTO⟩
    ·exact⟨_,g1⟩
    exact⟨_,g2⟩
   obtain⟨o,e⟩:=this;exact QC (Qp e)
  have zT:z≠s.heap.objs.size:=szT z (by simp)
  have keep2:∀b o,b∉[z,TI,TO,i1,i2]->s.heap.get? b=some o->h2'.get? b=some o:=λb o nb q=>by
   simp only[Qh,QA,Xk,not_or]at nb;exact c2.extBut b o nb.1 (b7 b o nb.1 nb.2.2.1 nb.2.2.2.1 nb.2.2.2.2 q)
  have kp:∀{b o},b≠z->h'.get? b=some o->h2'.get? b=some o:=λnb q=>c2.extBut _ _ nb q;have tup2:h2'.get? s.heap.objs.size=some _:=kp (Ne.symm zT) b5
  have I2:Inv X pins U (upd H s.heap.objs.size (.tup [y,y2])) { s with heap:=h2',toks:=s.toks } :=
   I.turnedL (ch:=[z,TI,TO,i1,i2]) keep2 hf (Qg _) ⟨(by show 2<=sizeLine;decide),[u,u2],.cons ru (.cons ru2 .nil),⟨_,tup2,rfl,_,rfl⟩⟩
  obtain⟨a1,b1',b2'⟩:=b2;refine⟨.ref s.heap.objs.size,_,I2,rfl,⟨s.heap.objs.size,y,y2,I.hok.fresh (Qg _),rfl,rfl,λys hy=>by rw[I.sq_inj hy hq];exact hx,λys hy=>by rw[I.sq_inj hy hq2];exact hx2⟩,⟨c1,?_,⟨a1,b1',?_⟩,?_,?_⟩,λb hb=>?_⟩
  ·exact kp D.TIz (b7 TI _ D.TIz D.TITO D.TIi1 D.TIi2 hTI)
  ·exact kp D.TOz b2'
  ·exact b3.at λo e=>kp D.i1z e
  ·exact b4.at λo e=>kp D.i2z e
  rw[ah (szT b hb)];exact(hf b hb).1
 done:=by
  intro X hP hw hK hc i pins s U H E I hf st hg;subst hP hw hK;obtain⟨xs,hq,hx⟩:=hg;obtain⟨its,rv,p,hsz⟩:=I.sq hq;obtain⟨hz,hTI,hTO,h1,h2⟩:=st;have hlen:=rv.length;refine LZg.next_end (a:=.none) (b:=.none) (I.ok.hd hc) D hz (.inl ⟨rfl,rfl,hTO⟩) hTI h1 p (by simp;omega) λh' eb=>⟨rfl,?_⟩
  exact I.turnedE (t':=s.toks) (ch:=[z,TI,TO,i1,i2]) (λb o nb q=>by
   simp only[Qh,QA,Xk,not_or]at nb
   exact eb b o nb.1 nb.2.2.2.1 q) hf
 self:=λ_ _ _ _ _ st h=>wpAny_pyIter_zip st.1 h
section
variable {X:Cx} {elts:List Expr} {k:Nat} {tpos:Pos}
def xY (K:PySem.W.Frag) (ta:TA):TI:=λU H R=>ta U H λvs H1=>∃a b t1 t2,vs=[.ref a,.ref b]/\(∃xs,SqS t1 K H1 a xs)/\(∃ys,SqS t2 K H1 b ys)/\R (lY t1 t2 K a b) H1
theorem gk {a b:Expr} {ta:TA} {p pos:Pos} (hg:Gl X "zip") (hm:X.mg "zip" = none) (ha:PA X [a,b] ta) (hs:starEach [a,b] X.env=[(false,eval a X.env),(false,eval b X.env)]:=by rfl) (hs2:starEach [b] X.env=[(false,eval b X.env)]:=by rfl):PI X (.Tuple elts k tpos) (.Call (.Name "zip" p) [a,b] [] pos) (xY X.K ta):=by
 intro pins s U H R I h;refine Call_ (d8 I hg hm boot_zip (XC (thn (ha pos pins s U H _ I h) λus s1 ⟨vs,H1,I1,r1,q1⟩=>?_) (by rw[hs,hs2]) (by rw[hs2];rfl)));obtain⟨l,m,t1,t2,e,⟨xs,hq⟩,⟨ys,hq2⟩,q⟩:=q1;subst e;obtain⟨u1,u2,eu,r3,r2⟩:=nC r1;subst eu;cases (show u1=Value.ref l from r3);cases (show u2=Value.ref m from r2)
 have frs:∀b∈[s1.heap.objs.size+4,s1.heap.objs.size+2,s1.heap.objs.size+3,s1.heap.objs.size,s1.heap.objs.size+1],s1.heap.objs.size<=b:=λb hb=>by
  simp only[Qh,QA,Xk]at hb;rcases hb with rfl|rfl|rfl|rfl|rfl
  ·exact QI _ _
  ·exact QI _ _
  ·exact QI _ _
  ·exact Qg _
  exact QI _ _
 obtain⟨its,rv,pl,hz⟩:=I1.sq hq;obtain⟨its2,rv2,pl2,hz2⟩:=I1.sq hq2;refine LZg.call_zip pl pl2 λh' b1 b2 b3 b4 b5 b6 b7=>?_;refine wpAny_pyIter_zip b1 ?_;have I2:Inv X pins U H1 { s1 with heap:=h' }:=I1.kept (t':=s1.toks) b7;have ll:@LT.lt Nat _ l s1.heap.objs.size:=pl.lt;have lm:@LT.lt Nat _ m s1.heap.objs.size:=pl2.lt;refine⟨s1.heap.objs.size+4,[s1.heap.objs.size+4,s1.heap.objs.size+2,s1.heap.objs.size+3,s1.heap.objs.size,s1.heap.objs.size+1],_,_,H1,rfl,I2,pf l m (s1.heap.objs.size+4) (s1.heap.objs.size+2) (s1.heap.objs.size+3) s1.heap.objs.size (s1.heap.objs.size+1) ?_ (by show @Ne Nat _ _;omega) (by show @Ne Nat _ _;omega) (by show @Ne Nat _ _;omega) (by show @Ne Nat _ _;omega),⟨b1,b2,⟨_,_,b3⟩,b4,b5⟩,λb hb=>I1.fpOk (frs b hb) (I1.hok.fresh (frs b hb)),q⟩
 constructor <;> (show @Ne Nat _ _;omega)
theorem sP {t1 t2:Bool} {K:PySem.W.Frag} {a b:Addr} {xs us:List V} {g:TG} {tb:TS} {D:Ends} {U:St} {H:Hp} (hz:xs.length<=us.length) (Pv:Nat->St->Hp->Prop) (h0:Pv 0 U H) (hl:∀i U H,i<=xs.length->Pv i U H->SqS t1 K H a xs/\SqS t2 K H b us)
  (hs:∀i x u U H T,xs[i]?=some x->us[i]?=some u->Pv i U H->H T=none->g (.ref T) U (upd H T (.tup [x,u])) λσ2 H2=>tb { D with nx:=Pv (i+1),ct:=Pv (i+1),bk:=D.nx } σ2 H2) (hd:∀U H,Pv xs.length U H->D.nx U H) :
  ∃W:Nat->Nat->St->Hp->Prop,(∃m,W 0 m U H)/\∀i m U H,W i m U H ->
   ((lY t1 t2 K a b).stop i H/\D.nx U H)\/((lY t1 t2 K a b).go i H/\∃N:St->Hp->Prop,(∀σ' H',N σ' H'->∃m',m'<m/\W (i+1) m' σ' H')/\∀x H',(lY t1 t2 K a b).yld i H x H'->g x U H' λσ2 H2=>tb { D with nx:=N,ct:=N,bk:=D.nx } σ2 H2):=by
 refine⟨λi m U H=>m=xs.length-i/\i<=xs.length/\Pv i U H,⟨_,rfl,QP _,h0⟩,?_⟩;rintro i m U H ⟨rfl,hi,p⟩;obtain⟨d1,d2⟩:=hl i U H hi p;by_cases hlt:i<xs.length
 ·refine .inr ⟨⟨⟨xs,xs[i],d1,by simp[hlt]⟩,us,us[i]'(by omega),d2,by rw[Qc (by omega)]⟩,Pv (i+1),λσ' H' p'=>⟨xs.length-(i+1),by omega,rfl,hlt,p'⟩,λx H' y=>?_⟩;obtain⟨T,v,u,hT,ex,eH,hv,hu⟩:=y;subst ex eH;exact hs i v u U H T (hv _ d1) (hu _ d2) p hT
 have e:i=xs.length:=by omega
 subst e;exact .inl ⟨⟨xs,d1,Qg _⟩,hd U H p⟩
end
theorem tm {a:Nat} (h:a<=xs.length):jT xs (some (a:Int)) none=xs.drop a:=by
 unfold jT;rw[HT.n9,HT.kK,Nat.min_eq_left h,Q4 (by rw[XS];exact om1)]
theorem wM {a:Nat} (h:a<=xs.length):jT xs none (some (a:Int))=xs.take a:=by
 unfold jT;rw[HT.n9,HT.kK,Nat.min_eq_left h];simp
theorem sW {x:V} (h:cu x=true):eqV x x=true:=by
 cases x <;> first|(simp[eqV];done)|(simp[cu]at h;done)|simp_all [eqV,cu]
theorem tI (n:Nat):((List.range n).all λ_=>true)=true:=Q7.mpr λ_ _=>rfl
section
variable {K:PySem.W.Frag} {H:Hp} {Q:VK}
theorem sV {n:Nat} {x:V} (h:cu x=true):EqD K H n x x true:=by
 have q:=EqD.flat (K:=K) (H:=H) (n:=n) h h;rwa [sW h]at q
theorem xW {a b:Addr} {xs ys:List V} (h1:SqL K H a xs) (h2:SqL K H b ys) (hl:xs.length=ys.length) (hi:∀(j:Nat) x y,xs[j]?=some x->ys[j]?=some y->EqD K H 8 x y true) (q:Q (.bl false) H):mB K true (.ref a) (.ref b) H Q:=by
 refine⟨a,b,xs,ys,λ_=>true,rfl,rfl,h1,h2,hi,?_⟩;rw[tI,hl,beq_self_eq_true];exact q
theorem jy {R:Bool->Hp->Prop} {l:Addr} {xs:List V} {U:St} (hl:H l=some (.lst xs)) (q:∀H',ak H H'->R (decide (xs.length=0)) H'):qy jk U H λy H2=>mB K false (.ref l) y H2 λx H'=>∃k,x=.bl k/\R k H':=by
 refine i_lst (bi ⟨by simp[sizeLine],λp hp=>?_⟩);refine⟨l,p,xs,[],λ_=>true,rfl,rfl,SqL.of (aA hp _ _ hl),SqL.of ag,λj x y _ e=>by simp at e,_,rfl,?_⟩
 have e:(if false=true then !(xs.length==([]:List V).length&&(List.range xs.length).all λ_=>true) else (xs.length==([]:List V).length&&(List.range xs.length).all λ_=>true))=decide (xs.length=0):=by
  rw[Qr Qm,tI,Bool.and_true];rfl
 rw[e];exact q _ (aA hp)
end
section
variable {X:Cx}
def rc (T:Addr):R2:=λx y H Q=>x=.ref T/\((y=.str "+" /\ Q (.str "0") H)\/(y=.str "-" /\ Q (.str "1") H))
theorem wC {T:Addr} (hT:iE X.K T [("+", .flat (.str "0")),("-", .flat (.str "1"))]):IxR X (rc T):=by
 intro value slice pins s U H x y v u Q I rx ry h hs;obtain⟨e1,h⟩:=h;subst e1;cases rx;have here:KTD.Here X.base s.heap T [("+", .flat (.str "0")),("-", .flat (.str "1"))]:=⟨KTD.text_of_look (get:=λa=>X.K.lookup a) (λa o e=>I.mod.kin a o e) hT,I.bk⟩;rcases h with⟨e,q⟩|⟨e,q⟩
 ·subst e;obtain⟨t,e⟩:=ry;subst e;refine KTD.item_textA here (by rfl) (by decide +kernel) ?_ hs;have e:decide (("+" : Str) = "+")=true:=by decide +kernel
  simp only[KTD.EachL,e,if_true];exact λt=>⟨.str "0", H,I.tok _,⟨_,rfl⟩,q⟩
 subst e;obtain⟨t,e⟩:=ry;subst e;refine KTD.item_textA here (by rfl) (by decide +kernel) ?_ hs;have e:decide (("-" : Str) = "+")=false:=by decide +kernel
 simp only[KTD.EachL,e,QE,Xs];exact λ_ t=>⟨.str "1", H,I.tok _,⟨_,rfl⟩,q⟩
end
section
variable {X:Cx} {scope:Scope} {tgs:List Str} {cap:List (Str × Nat)}
theorem kN {j:Nat} {x:Str} {pos' spos:Pos} {elt tg iter:Expr} {ifs:List Expr} {pos:Pos} {wi:TI} {g:TG} {tt:TT} {te:TE} (hN:X.N.Nodup) (hj:X.N[j]?=some x) (hx:Loc X.env.scope x) (hc:X.calm=true) (B:BlockOk X scope tgs cap) (hi:PI X tg iter wi)
  (hg:∀C s H fp,PG (X.block (tgs++cap.map (·.1)) scope C s H fp) tg g) (ht:∀C s H fp,uY (X.block (tgs++cap.map (·.1)) scope C s H fp) ifs tt) (he:∀C s H fp,PE (X.block (tgs++cap.map (·.1)) scope C s H fp) elt te)
  (hs:∀x,foldedSetIterable iter X.env x=pure x:=by intro _;rfl) (hsw:swapsWith (.ListComp elt [⟨tg,iter,ifs,0⟩] scope pos) (some (.Name x pos')) spos.line X.env=pure true:=by rfl)
  (hf:X.fn x=true\/X.env.scope.names.lookup x=some .local:=by z_go):PS X (.Assign [.Name x pos'] (.ListComp elt [⟨tg,iter,ifs,0⟩] scope pos) spos) (qG (gx wi g tt te (bz tgs cap)) (dv j)):=by
 intro pins s U H D I h;rw[exec_Assign_Name_used _ _ _ _ hsw];refine Qa (wpAny_standAt (Qa ?_));show wpAny _ _ (comprehension _ _ _ _ _ _ _ _ >>= _) _ _ _;refine Qa (thn (Q:=λ_ s'=>SP X pins D .next s') ?_ λ_ s' q=>Qf (Qf q));refine wpAny_comprehension_free (use:=some (assign (.Name x pos') X.env)) rfl hs (ib (B.cellAt I.ok)) B.kind B.locs (thn (hi pins s U H _ I h) λv s1 h1=>thn h1 λitv s2 h2=>?_);obtain⟨it,fp,tn,J,H2,e,I2,T,st2,f2,q⟩:=h2;subst e;have lt2:∀b∈fp,b<s2.heap.objs.size:=λb hb=>let ⟨o,e,_⟩:=T.obj _ _ st2 b hb;Qp e;have hD:H2 s2.heap.objs.size=none:=I2.hok.fresh (Qg _);obtain⟨W,⟨m0,w0⟩,turn⟩:=q s2.heap.objs.size hD;refine XE ?_;have I3:Inv X pins U (upd H2 s2.heap.objs.size (.lst [])) { s2 with heap:=s2.heap.push { cls:=.type "list", dict:=none,data:=.seq ([]:List Value).toArray } }:=I2.lnew (t':=s2.toks) (ys:=[]) (its:=[]) .nil (QP _);have st3:tn 0 (s2.heap.push { cls:=.type "list", dict:=none,data:=.seq ([]:List Value).toArray }):=T.keep _ _ _ st2 λb _ o e=>Qb _ e;have nD:∀b∈fp,b≠s2.heap.objs.size:=λb hb=>QC (lt2 b hb);have f3:∀b∈fp,eB X pins (upd H2 s2.heap.objs.size (.lst [])) b:=λb hb=>⟨by rw[ah (nD b hb)];exact(f2 b hb).1,(f2 b hb).2⟩;generalize hs3:({ s2 with heap:=s2.heap.push { cls:=.type "list", dict:=none,data:=.seq ([]:List Value).toArray } }:Shared)=s3 at I3 st3 ⊢;have st3':tn 0 s3.heap:=by rw[<-hs3];exact st3
 have lt3:∀b∈fp,b<s3.heap.objs.size:=λb hb=>let ⟨o,e,_⟩:=T.obj _ _ st3' b hb;Qp e;generalize hH3:upd H2 s2.heap.objs.size (.lst [])=H3 at I3 f3 w0;generalize s2.heap.objs.size=DD at *;refine wpAny_newFunctionEnv B.noc (by intro y hy;simp at hy) (λh1 hns hsb=>?_) B.kind;have old:∀b o,s3.heap.get? b=some o->h1.get? b=some o:=λb o e=>hsb.extBut b o (QC (Qp e)) (Qb _ e);have I4:=Inv.enter (tk:=s3.toks+([]:List (Str × Value)).length) (h1:=h1) B I3 f3 lt3 hns old;have st4:tn 0 h1:=T.keep _ _ _ st3' λb _ o e=>old b o e
 have fpB:∀{H':Hp},(∀b∈fp,H' b=none)->∀b∈fp,eB (X.block (tgs++cap.map (·.1)) scope s3.heap.objs.size s3 H3 fp) [] H' b:=λ{H'} hn b hb =>
  ⟨hn b hb,QC (lt3 b hb),I4.ok.exfs b hb,.inl hb,λx c e=>(I4.ok.exf b hb).2 x c e,λp hp=>absurd (show p∈([]:A1) from hp) (by simp)⟩
 have loop:codeAny (model X.prog X.w) X.A (.compLoop (.ListComp elt [⟨tg,iter,ifs,0⟩] scope pos) 0 (.ref it) (.ref DD) (compEnvC scope (cz X.env scope.names []) s3.heap.objs.size X.env))
   (compPost (model X.prog X.w) X.A X.xe (some (assign (.Name x pos') X.env)) (λ_ s'=>SP X pins D .next s') (.ref DD) s3.heap.objs.size) { s3 with heap:=h1,toks:=s3.toks+([]:List (Str × Value)).length }:=by
  refine fG (λn s'=>∃i H' ys,Inv (X.block (tgs++cap.map (·.1)) scope s3.heap.objs.size s3 H3 fp) [] (bz tgs cap U) H' s'/\tn i s'.heap/\(∀b∈fp,H' b=none)/\W i n H' ys) ?_ m0 ⟨0,H3,[],I4,st4,λb hb=>(f3 b hb).1,w0⟩;rintro n s5 ⟨i,H5,ys,I5,st5,fr5,w5⟩;obtain⟨hl,ht5⟩:=turn i n H5 ys w5;rcases ht5 with⟨stop,qd⟩|⟨go,step⟩
  ·refine thn (T.done (X.block (tgs++cap.map (·.1)) scope s3.heap.objs.size s3 H3 fp) rfl rfl rfl hc i [] s5 _ H5 _ I5 (fpB fr5) st5 stop) λr s6 ⟨hr,I6⟩=>?_;subst hr;obtain⟨m6,n6,_⟩:=I6.loc;have IO:Inv X pins U H5 s6:=Inv.leave (h2:=s6.heap) I3 f3 I6 ⟨rfl,λ_ _=>rfl⟩;have fC:eB X pins H5 s3.heap.objs.size:=⟨I6.free,(I3.fpOk (Qg _) (I3.hok.fresh (Qg _))).2⟩;obtain⟨f0,f1,f2',f3',f4,f5⟩:=fC;refine wpAny_assign_Name (iH IO hN hj hx (show aI (.ref DD) (.ref DD) from rfl) (λs7 I7 ⟨a,sb,ha⟩=>?_) hf)
   have na:s3.heap.objs.size≠a:=by
    rcases ha with z|z
    ·rw[z];exact f1
    exact λy=>f4 x a z y.symm
   obtain⟨o6,es6,ep6,ho6,r6⟩:=n6;refine⟨m6,⟨o6,es6,ep6,(sb.2 _ na).trans ho6,r6⟩,λh' hs'=>⟨_,H5,I7.turned (t':=s7.toks) (λb o hb q=>(hs'.2 b hb).trans q) f0 f1 f3' f4 f5,qd⟩⟩
  refine thn (T.item (X.block (tgs++cap.map (·.1)) scope s3.heap.objs.size s3 H3 fp) rfl rfl rfl hc i [] s5 _ H5 _ I5 (fpB fr5) st5 go) λr s6 ⟨u,hr,h6⟩=>?_;subst hr;refine thn h6 λ_ s7 ⟨x,H7,I7,r7,y7,st7,fr7⟩=>?_;have I7':=I7.pinned (fpB fr7) (T.obj _ _ st7)
  have again:∀{σ8:St} {H8:Hp} {s8:Shared} {ys8:List V},Inv (X.block (tgs++cap.map (·.1)) scope s3.heap.objs.size s3 H3 fp) ([]++fN fp s7.heap) σ8 H8 s8->wk (bz tgs cap U) σ8->(∃m',m'<n/\W (i+1) m' H8 ys8) ->
    ∃m,m<n/\∃i H' ys,Inv (X.block (tgs++cap.map (·.1)) scope s3.heap.objs.size s3 H3 fp) [] (bz tgs cap U) H' s8/\tn i s8.heap/\(∀b∈fp,H' b=none)/\W i m H' ys:=λ{σ8 H8 s8 ys8} I8 k8 ⟨m',hm,w8⟩=>by
   refine⟨m',hm,i+1,H8,ys8,I8.unpinned.weak (je k8) (jf k8),T.keep _ _ _ st7 λb hb o e=>(I8.pin (b,o) (QF _ (QF _ (cE hb e)))).1,λb hb=>?_,w8⟩;obtain⟨o,e,d⟩:=T.obj _ _ st7 b hb;exact(I8.pin (b,o) (QF _ (QF _ (cE hb e)))).2.1
  refine thn (hg _ _ _ _ _ s7 _ H7 x u _ I7' r7 (step x H7 y7)) λ_ s8 ⟨σ8,H8,I8,k8,q8⟩=>?_;refine thn (ht _ _ _ _ _ s8 σ8 H8 _ I8 q8) λok s9 ⟨H9,I9,q9⟩=>?_
  cases ok with
  | false =>
   rw[Qr Qm]at q9 ⊢;exact again I9 k8 q9
  | true =>
  rw[Qt rfl]at q9 ⊢;refine thn (he _ _ _ _ _ s9 σ8 H9 _ I9 q9) λy sA ⟨yv,HA,IA,rA,hA,zA,qA⟩=>?_;exact thn (bj _ sA σ8 HA (.ref DD) [yv] (.ref DD) [y] (λv H'=>v=.non/\∃m',m'<n/\W (i+1) m' H' (ys++[yv])) IA rfl (.cons rA .nil) ⟨DD,ys,yv,rfl,rfl,hA,zA,rfl,qA⟩) λ_ sB ⟨_,HB,IB,_,_,qB⟩=>again IB k8 qB
 exact codeAny_compStart_list loop (T.self _ 0 _ _ _ st4 loop)
end
end L2
namespace L2
open PySem PySem.Spec PyProof.Rows
open AutoSeq1 (wpAny_loadPart')
section
variable {P:Program} {w:World} {A:Around} {E:A0} {s:Shared}
end
end L2
namespace L2
open PySem PySem.Spec PyProof.Rows
section
variable {P:Program} {w:World} {A:Around} {E:A0} {s:Shared}
end
end L2
namespace L2
open PySem PySem.Spec PyProof.Rows PySem.SeqAt PySem.MeetsSeq
open PySem.AutoSeq1 (wpAny_loadPart')
def yg (l:Addr) (us:Array Value) (n:Nat) (x:Value) (e:Value->Bool) (A:Around) (s:Shared):Prop :=
 s.heap.get? l=some { cls:=.type "list", dict:=none,data:=.seq us n,slots:=#[] }/\∀y,y∈us->EqAt A.in1 s y x (e y)
theorem n_ {l:Addr} {us:Array Value} {n:Nat} {x:Value} {e:Value->Bool} {j:Nat} (hj:j<us.size) (hit:e us[j]=true) (few:us.size<=sizeLine):∀(d i:Nat),i+d=j->(∀m (hm:m<us.size),i<=m->m<j->e us[m]=false) ->
  Meets (Builtin.«list.remove.loop» ⟨[.ref l,x,rawInt i],[]⟩) λA R s=>yg l us n x e A s/\R (.ok (.ret .none)) { s with heap:=s.heap.update l (Obj.mapSeq λxs=>xs.eraseIdxIfInBounds j) }
 | 0,i,ei,_=>by
  obtain rfl:i=j:=ei;rintro prog w A R ⟨hp,g,dd,tk,os⟩ ⟨⟨hl,he⟩,q⟩
  wp_walk using wpAny_loadPart' hl
  rw[show us[((i:Nat):Int).toNat]?=some us[i] by simp[hj]];refine Qa (he _ (Array.getElem_mem hj) prog w _ _ ?_);rw[hit];have b2:(us.eraseIdxIfInBounds i).size<=sizeLine+1:=Nat.le_succ_of_le (QG (size_erased us i) few)
  wp_walk using(wpAny_updateSeq hl rfl (hz:=few) (_hz':=b2)),wpAny_loadPart' hl
  simpa using q
 | d+1,i,ei,no=>by
  rintro prog w A R ⟨hp,g,dd,tk,os⟩ ⟨⟨hl,he⟩,q⟩;have il:i<us.size:=by omega
  wp_walk using wpAny_loadPart' hl
  rw[show us[((i:Nat):Int).toNat]?=some us[i] by simp[il]];refine Qa (he _ (Array.getElem_mem il) prog w _ _ ?_);rw[no i il (Qg _) (by omega)]
  wp_walk
  rw[show ((i:Int)+1)=((i+1:Nat):Int) from rfl];refine⟨plainId_quiet plain_remove_loop _,Xy entry_remove_loop ?_⟩;rw[Xj plain_remove_loop _];exact n_ hj hit few d (i+1) (by omega) (λm hm h1 h2=>no m hm (by omega) h2) prog w A R _ ⟨⟨hl,he⟩,q⟩
theorem vX {l:Addr} {us:Array Value} {n:Nat} {x:Value} {e:Value->Bool} {j:Nat} (hj:j<us.size) (hit:e us[j]=true) (few:us.size<=sizeLine) (no:∀m (hm:m<us.size),m<j->e us[m]=false) :
  Meets (Builtin.«list.remove» ⟨[.ref l,x],[]⟩) λA R s=>yg l us n x e A s/\R (.ok (.ret .none)) { s with heap:=s.heap.update l (Obj.mapSeq λxs=>xs.eraseIdxIfInBounds j) }:=by
 rintro prog w A R ⟨hp,g,dd,tk,os⟩ ⟨⟨hl,he⟩,q⟩
 wp_walk using wpAny_loadPart' hl
 refine⟨plainId_quiet plain_remove_loop _,Xy entry_remove_loop ?_⟩;rw[Xj plain_remove_loop _];exact n_ hj hit few j 0 (by omega) (λm hm _ h2=>no m hm h2) prog w A R _ ⟨⟨hl,he⟩,q⟩
section
variable {X:Cx}
def kM (K:PySem.W.Frag):V->List V->Hp->VK->Prop:=λx vs H Q=>∃(l:Addr) (ys:List V) (y:V) (e:V->Bool) (j:Nat) (z:V),x=.ref l/\vs=[y]/\H l=some (.lst ys)/\(∀v∈ys,EqD K H 8 v y (e v))/\ys[j]?=some z/\e z=true/\(∀m v,m<j->ys[m]?=some v->e v=false)/\Q .non (upd H l (.lst (ys.eraseIdx j)))
theorem mL (hu:X.A.units+64<cLine):MtM X "list.remove" (kM X.K):=by
 intro pins s U H x vs v us Q I rx rv h;obtain⟨l,ys,y,e,j,z,rfl,rfl,hH,f,hj,ez,no,q⟩:=h;cases rx;obtain⟨u,rfl,ru⟩:=c9 rv;obtain⟨zl,its,n,r,hl,ho⟩:=I.lstM hH;have hu':X.A.in1.units+8<cLine:=show X.A.units+1+8<cLine by omega
 obtain⟨w1,hw1,rw1⟩:=r.get hj;have hjl:=(Qe.mp hw1).1
 have at_:∀m (hm:m<its.toArray.size),∃v,ys[m]?=some v/\vOf its.toArray[m]=v:=λm hm=>by
  have hm:m<its.length:=by simpa using hm
  have hm2:m<ys.length:=by rw[r.length];exact hm
  obtain⟨w,hw,rw'⟩:=r.get (Qc hm2);rw[Qc hm]at hw;cases hw;exact⟨_,Qc hm2,jg rw'⟩
 have few:its.toArray.size<=sizeLine:=by rw[Qi];omega
 refine call_meets F.slot_list_remove ⟨_,ho,rfl⟩ F.entry_list_remove (F.args_list_remove_2 _ _) (vX (l:=l) (us:=its.toArray) (n:=n) (x:=u) (e:=λu=>e (vOf u)) (j:=j) (by simpa using hjl) ?_ few (λm hm hmj=>?_)) ⟨⟨ho,?_⟩,?_⟩
 ·obtain⟨v,hv,ev⟩:=at_ j (by simpa using hjl);rw[hj]at hv;cases hv;rw[ev];exact ez
 ·obtain⟨v,hv,ev⟩:=at_ m hm;rw[ev];exact no m v hmj hv
 ·exact λw hw=>EqD.mems I hu' ru r f w (by simpa using hw)
 refine⟨.non,_,I.lset (its':=its.eraseIdx j) hH ho ?_ (r.eraseIdx j) ?_,rfl,q⟩
 ·show its.toArray.eraseIdxIfInBounds j=(its.eraseIdx j).toArray;rw[List.eraseIdxIfInBounds_toArray]
 have:=fV ys j;omega
end
end L2
namespace K2
open PySem L2
abbrev IvF:=Nat->St->Hp->Prop
abbrev IvC:=Nat->Hp->List V->Prop
abbrev IvJ:=St->Hp->Prop
variable {X:Cx}
theorem dG {K:PySem.W.Frag} (h:X.K=K):IxR X (rb K):=by subst h;exact az
variable {H H' H1 H2:Hp} {U:St} {td ty tx tv tl:TE}
theorem uD {Q:VK} (q:td U H λx H1=>∃a,x=.ref a/\IsD H1 a/\ty U H1 λy H2=>tx U H2 λz H3=>∃kvs k,H3 a=some (.dK kvs)/\y=kV k/\(∀v,aQ kvs k=some v->Q v H3)/\(aQ kvs k=none->kvs.length<sizeLine/\Q z (upd H3 a (.dK (bh kvs k z))))):qz td ty tx U H Q:=q
theorem dX {D:Ends} (q:tv U H λv H1=>td U H1 λx H2=>ty U H2 λy H3=>∃a H4,x=.ref a/\fb H3 a y v H4/\D.nx U H4):vh td ty tv D U H:=q
theorem lD {Q:VK} (q:ty U H λy H1=>td U H1 λx H2=>∃a o,x=.ref a/\cw H2 a y o/\Q (.bl (!o.isSome)) H2):nM ty td U H Q:=q
theorem uF {Q:VK} (q:td U H λx H1=>∃a,x=.ref a/\IsD H1 a/\ty U H1 λy H2=>∃o,cw H2 a y o/\Q (o.getD .non) H2):qD td ty U H Q:=q
theorem xk {t:TS} {D:Ends} {a:Addr} {u:HO} (r:Rd H a u) (f:Fz u) (q:∀o,t (u5 D H a o u) U (upd H a (.frz o u))):xc t D U H:=⟨a,u,r,f,q⟩
theorem tS {R:It->Hp->Prop} (q:tl U H λx H1=>∃a o kvs,x=.ref a/\H1 a=some (.frz o (.dK kvs))/\R (Itd a o kvs) H1):sM tl U H R:=q
structure Txt (K:PySem.W.Frag) (mg:A2) (TT:Addr):Prop where
 n_len:mg "len" = none
 n_range:mg "range" = none
 n_max:mg "max" = none
 n_min:mg "min" = none
 n_int:mg "int" = none
 n_list:mg "list" = none
 n_str:mg "str" = none
 n_isinstance:mg "isinstance" = none
 n_all:mg "all" = none
 n_set:mg "set" = none
 n_dict:mg "dict" = none
 n_enumerate:mg "enumerate" = none
 n_sorted:mg "sorted" = none
 n_tuple:mg "tuple" = none
 n_bool:mg "bool" = none
 n_zip:mg "zip" = none
 n_reversed:mg "reversed" = none
 mNODES:∃t,mg "MOST_NODES" = some (.int 40 t)
 sA:∃a,mg "SIGNS_AHEAD" = some (.ref a)/\iE K a [("+", .flat (.str "0")),("-", .flat (.str "1"))]
 tURNED:mg "TURNED" = some (.ref TT)
 tab:iE K TT [("0", .flat (.str "1")),("1", .flat (.str "0"))]
structure Dk where
 d:Addr
 n:Nat
def Dk.more (D:Dk) (k:Nat):Dk:=⟨D.d,D.n+k⟩
def Dk.own (D:Dk) (b:Addr):Prop:=b=D.d
def Dk.At (D:Dk) (H:Hp):Prop:=∃a b c:Int,H D.d=some (.lst [.int a,.int b,.int c])/\0<=c/\c<=(D.n:Int)
structure Kp (D:Dk) (H H':Hp):Prop where
 old:∀b o,H b=some o->¬D.own b->H' b=some o
 dk:D.At H'
def dU:Sp:=λvs H Q _=>∃(D:Dk) (m:Int),vs=[.ref D.d,.int m]/\D.At H/\D.n<100000/\1<=m/\m<=100000/\∀(r:Int) H',0<=r->r<m->Kp (D.more 1) H H'->Q (.int r) H'
theorem vv {D:Dk} {a b c:Int} (h0:0<=c) (h1:c<=(D.n:Int)):Kp D H (upd H D.d (.lst [.int a,.int b,.int c])):=⟨λb o e nb=>by rw[ah nb];exact e,⟨_,_,_,ag,h0,h1⟩⟩
def aY (H H':Hp):Prop:=∀b xs,H b=some (.tup xs)->H' b=some (.tup xs)
theorem ak.tups (S:ak H H'):aY H H':=λb xs e=>S b _ e
variable {D D':Dk}
theorem Dk.At.same {H':Hp} (S:ak H H') (h:D.At H):D.At H':=let ⟨a,b,c,e,l⟩:=h;⟨a,b,c,S _ _ e,l⟩
theorem Kp.of {D:Dk} (h:D.At H) (S:ak H H'):Kp D H H':=⟨λb o e _=>S b o e,h.same S⟩
theorem Kp.trans (a:Kp D H H1) (b:Kp D' H1 H2) (e:D.d=D'.d:=by rfl):Kp D' H H2:=⟨λc o h n=>b.old c o (a.old c o h (by unfold Dk.own at n ⊢;rw[e];exact n)) n,b.dk⟩
theorem Dk.At.le {D':Dk} (a:D.At H) (l:D.n<=D'.n) (e:D.d=D'.d:=by rfl):D'.At H:=by
 obtain⟨x,y,z,h,h0,h1⟩:=a;exact⟨x,y,z,by rw[<-e];exact h,h0,by omega⟩
theorem Kp.le {D':Dk} (a:Kp D H H') (l:D.n<=D'.n) (e:D.d=D'.d:=by rfl):Kp D' H H':=⟨λc o h n=>a.old c o h (by unfold Dk.own at n ⊢;rw[e];exact n),a.dk.le l e⟩
variable {o:HO} {b l L:Addr}
theorem cM {D:Dk} (DA:D.At H) (h:H b=some o) (hi:∀xs,o=.lst xs->∀i:Int,V.int i∉xs):¬D.own b:=by
 obtain⟨x,y,z,e,_⟩:=DA;intro q;cases q;rw[e]at h;exact hi _ (QJ h).symm x (by simp)
theorem Kp.tups {D:Dk} (DA:D.At H) (k:Kp D H H'):aY H H':=λb xs e=>k.old b _ e (cM DA e (λ_ z=>nomatch z))
theorem cC (ns:List Str):∀i:Int,V.int i∉ns.map V.str:=λi h=>by
 obtain⟨x,_,e⟩:=Qj.mp h;cases e
theorem Kp.strs (DA:D.At H) (k:Kp D H H') {ns:List Str} (h:H l=some (.lst (ns.map V.str))):H' l=some (.lst (ns.map V.str)) :=
 k.old l _ h (cM DA h (λxs e=>by cases e;exact cC ns))
theorem cD {xs:List V} (h:∀x∈xs,∃a,x=V.ref a):∀i:Int,V.int i∉xs:=λi hi=>by
 obtain⟨a,e⟩:=h _ hi;cases e
theorem Kp.refs (DA:D.At H) (k:Kp D H H') {xs:List V} (h:H l=some (.lst xs)) (hr:∀x∈xs,∃a,x=V.ref a):H' l=some (.lst xs) :=
 k.old l _ h (cM DA h (λys e=>by cases e;exact cD hr))
theorem Kp.fresh {o:HO} (DA:D.At H) (hL:H L=none) (k:Kp D H H'):Kp D H (upd H' L o):=by
 obtain⟨a0,b0,c0,e0,_⟩:=DA;obtain⟨a,b,c,e,l⟩:=k.dk;exact⟨λb u e nb=>by rw[ah (am e hL)];exact k.old b u e nb,⟨a,b,c,by rw[ah (am e0 hL)];exact e,l⟩⟩
theorem Kp.new {p:Addr} (k:Kp D H H') (hp:H' p=none):Kp D H (upd H' p o):=k.trans (Kp.of k.dk (aA hp))
theorem Kp.free (k:Kp D H H') (h:H' l=none):H l=none:=by
 cases e:H l with
 | none=>rfl
 | some o =>
 exfalso;by_cases c:D.own l
 ·obtain⟨a,b,z,q,_⟩:=k.dk;cases c;rw[q]at h;cases h
 rw[k.old l o e c]at h;cases h
theorem aJ {D:Dk} {p:Addr} (DA:D.At H) (hp:H p=none):¬D.own p:=λz=>by
 obtain⟨a,b,c,e,_⟩:=DA;cases z;rw[e]at hp;cases hp
structure StOk (n:Nat) (z:Str):Prop where
 len:z.cps.size=n
 signs:∀c∈z.cps.toList,c=48\/c=49
variable {es a:List Expr}
theorem dD {K:PySem.W.Frag} {k:Nat} {t:TGs} {n:Nat} {pos:Pos} (hK:X.K=K) (hc:X.calm=true) (h:PGs X es t)
  (hn:(assignEach es X.env).length=n:=by rfl) (hst:(assignEach es X.env).findIdx? (·.1)=none:=by rfl):PG X (.Tuple es k pos) (x_ K n t):=by subst hK;exact d5 hc h hn hst
theorem dr {A B:TS} {D:Ends} (J:St->Hp->Prop) (h:∀(R:St->Hp->Prop),(∀U H,J U H->R U H)->A { D with nx:=R } U H) (hJ:∀U H,J U H->B D U H):tN A B D U H:=h (B D) hJ
variable {env:Env}
theorem se_tup {n:Nat} {p:Pos}:starEach (.Tuple a n p::es) env=(false,eval (.Tuple a n p) env)::starEach es env:=by rfl
theorem se_lst {p:Pos}:starEach (.List a p::es) env=(false,eval (.List a p) env)::starEach es env:=by rfl
theorem aZ {f:Expr} {k:List Keyword} {p:Pos}:starEach (.Call f a k p::es) env=(false,eval (.Call f a k p) env)::starEach es env:=by rfl
theorem aL {c:Const} {n:Nat} {p:Pos}:starEach (.Constant c n p::es) env=(false,eval (.Constant c n p) env)::starEach es env:=by rfl
theorem ae {x:Str} {p:Pos}:starEach (.Name x p::es) env=(false,eval (.Name x p) env)::starEach es env:=by rfl
theorem se_bin {a b:Expr} {o:Operator} {p:Pos}:starEach (.BinOp a o b p::es) env=(false,eval (.BinOp a o b p) env)::starEach es env:=by rfl
theorem se_sub {a b:Expr} {p:Pos}:starEach (.Subscript a b p::es) env=(false,eval (.Subscript a b p) env)::starEach es env:=by rfl
theorem aC {a:Addr} (h1:H a=some o) (h2:H b=none):b≠a:=λz=>by rw[z,h1]at h2;cases h2
theorem aV {α β:Type} {F:α->β->Prop}:∀{xs:List α} {ys:List β} {x:α} {y:β},Paired F xs ys->F x y->Paired F (xs++[x]) (ys++[y])
 | _,_,_,_,.nil,h=>.cons h .nil
 | _,_,_,_,.cons h t,g=>.cons h (aV t g)
theorem ac {α β:Type} {F G:α->β->Prop} (h:∀a b,F a b->G a b):∀{xs:List α} {ys:List β},Paired F xs ys->Paired G xs ys
 | _,_,.nil=>.nil
 | _,_,.cons a t=>.cons (h _ _ a) (ac h t)
theorem paired_get {α β:Type} {F:α->β->Prop}:∀{xs:List α} {ys:List β} {i:Nat} {x:α},Paired F xs ys->xs[i]?=some x->∃y,ys[i]?=some y/\F x y
 | _,_,_,_,.nil,e=>by simp at e
 | _,_,0,_,.cons r _,e=>by simp at e;subst e;exact⟨_,rfl,r⟩
 | _,_,i+1,x,.cons _ t,e=>by
  obtain⟨u,h1,h2⟩:=paired_get (i:=i) (x:=x) t (by simpa using e);exact⟨u,by simpa using h1,h2⟩
theorem a9 {α β:Type} {F:α->β->Prop}:∀{xs:List α} {ys:List β} {i:Nat} {y:β},Paired F xs ys->ys[i]?=some y->∃x,xs[i]?=some x/\F x y
 | _,_,_,_,.nil,e=>by simp at e
 | _,_,0,_,.cons r _,e=>by simp at e;subst e;exact⟨_,rfl,r⟩
 | _,_,i+1,y,.cons _ t,e=>by
  obtain⟨u,h1,h2⟩:=a9 (i:=i) (y:=y) t (by simpa using e);exact⟨u,by simpa using h1,h2⟩
theorem ifT {c:Bool} {A B:Prop} (hc:c=true) (h:A):if c=true then A else B:=by rw[Qt hc];exact h
theorem ifF {c:Bool} {A B:Prop} (hc:c=false) (h:B):if c=true then A else B:=by subst hc;exact iteF h
theorem ca {D:Addr} (S:ak H H') (hD:H D=none):ak H (upd H' D o):=λb u e=>by rw[ah (am e hD)];exact S b u e
theorem aj {p:Addr} (h:H p=none) (e:upd H p o=H'):ak H H'/\H' p=some o:=by
 subst e;exact⟨aA h,ag⟩
theorem ao {α β:Type} {F:α->β->Prop}:∀{xs:List α} {ys:List β},Paired F xs ys->xs.length=ys.length
 | _,_,.nil=>rfl
 | _,_,.cons h t=>by simp[ao t]
theorem jB {K:PySem.W.Frag} (h:X.K=K) (hu:X.A.units+64<cLine):OpR X (compareOp .Eq) (re K false):=by subst h;exact fR hu
theorem t7 {K:PySem.W.Frag} (h:X.K=K) (hu:X.A.units+64<cLine):OpR X (compareOp .In) (v0 K false):=by subst h;exact wm hu
end K2
namespace K2
open PySem L2
abbrev SqLofQ:=@SqL.of
abbrev i_consQ:=@bn
abbrev i_ixLQ:=@bF
abbrev i_nilQ:=@bi
abbrev i_varQ:=@aH
abbrev pa_consQ:=@aa
abbrev pa_nilQ:=@ad
abbrev pe_intQ:=@af
abbrev pe_strQ:=@bc
abbrev s_nameQ:=@aw
abbrev se_callQ:=@aZ
abbrev se_conQ:=@aL
abbrev se_nameQ:=@ae
local macro_rules | `(tactic| walk_at "vc") => `(tactic| first
 | ((refine' (?zz : (?zA → ?zG) → ?zA → ?zG) ?zr ?_); (case zr => with_reducible exact s_seqT); (case zz => exact fun _ q => q); intro D') | ((refine' (?zz : (?zA → ?zG) → ?zA → ?zG) ?zr ?_); (case zr => with_reducible first | exact s_asg | exact s_drop | exact s_ret | exact s_if | exact s_sub | exact s_next | exact i_c | exact i_op | exact i_test | exact i_tB | exact i_and | exact i_or | exact i_not | exact i_andV | exact i_orV | exact i_notV | exact i_ifE | exact i_nilQ | exact i_consQ | exact i_cb | exact i_tup | exact i_lst | exact i_bm | exact i_sl | exact i_nopart | exact i_part | exact s_for | exact s_rng1 | exact s_list | exact s_str | exact i_dget | exact i_yes | exact i_un); (case zz => exact fun _ q => q))   | (with_reducible refine s_nameQ ?_)
 | ((with_reducible refine' i_varQ ?hv ?_); (case hv => exact rfl))   | (with_reducible first | refine i_rI0 ?_ | refine i_call ?_ | refine s_strI ?_ | refine iteF ?_ | refine iteT ?_ | refine i_rU ?_)
 | ((with_reducible show ∃ i, V.int _ = V.int i ∧ _); (refine ⟨_, rfl, ?_⟩)) | ((with_reducible show ∃ k, V.bl _ = V.bl k ∧ _); (refine ⟨_, rfl, ?_⟩)) | ((with_reducible show (∃ i, [V.bl _] = [V.int i] ∧ _) ∨ _); (refine Or.inr ⟨_, rfl, ?_⟩))
 | ((with_reducible refine' i_ixLQ ?ha ?hb ?_); (case ha => exact SqLofQ (by assumption)); (case hb => exact rfl)) | ((with_reducible refine' i_ixT ?ha ?hb ?_); (case ha => assumption); (case hb => exact rfl))
 | ((with_reducible show ∃ p _, [V.ref _] = [V.ref p] ∧ (SqL _ _ _ _ ∨ SqT _ _ _ _) ∧ _); (refine' ⟨_, _, rfl, Or.inl (SqLofQ ?ha), ?_⟩); (case ha => assumption)) | ((with_reducible refine' s_setL ?ha ?hb ?_); (case ha => assumption); (case hb => exact rfl))
 | ((with_reducible refine' i_eq ?ha ?_); (case ha => exact rfl)) | ((with_reducible refine' i_ne ?ha ?_); (case ha => exact rfl))
 | ((with_reducible show ∃ z, V.str _ = V.str z ∧ _); (refine ⟨_, rfl, ?_⟩))
 | ((with_reducible refine' i_rI ?hv ?_); (case hv => first | decide | (dsimp only; omega) | exact .inl ⟨by omega, by omega⟩ | exact .inr ⟨by omega, by omega⟩ | exact ⟨by decide, by decide⟩ | exact ⟨by decide, by decide, by decide⟩ | exact ⟨by omega, by omega⟩))
 | ((with_reducible show ∃ i, [V.int _] = [V.int i] ∧ _); (refine ⟨_, rfl, ?_⟩))
 | ((with_reducible show tyV _ "list" _ _ ∧ _); (refine' ⟨i_tyL ?ha, ?_⟩); (case ha => assumption)))
local macro_rules | `(tactic| walk_at "p") => `(tactic| repeat' (with_reducible first | (refine' pss_one ?_; rotate_left 1) | (refine' pss_cons ?_ ?_; rotate_left 2) | exact pss_nil | (refine' ps_if ?_ ?_ ?_; rotate_left 3)))
local macro_rules | `(tactic| walk_at "b") => `(tactic| (refine' pss_cons ?_ ?_; rotate_left 2; walk_at "p"))
local macro_rules | `(tactic| walk_at "f") => `(tactic| (refine' ps_for PassesOwn.never rfl ?_ ?_ ?_ (fun _ => rfl); rotate_left 3))
local macro_rules | `(tactic| walk_at "q") => `(tactic| repeat' (with_reducible first | exact pe_strQ | exact pe_intQ | exact pa_nilQ | (refine' pe_tup ?_; rotate_left 1) | (refine' pe_lst ?_; rotate_left 1) | (refine' pa_consQ ?_ ?_ se_conQ; rotate_left 2) | (refine' pa_consQ ?_ ?_ se_tup; rotate_left 2) | (refine' pa_consQ ?_ ?_ se_nameQ; rotate_left 2) | (refine' pa_consQ ?_ ?_ se_sub; rotate_left 2) | (refine' pa_consQ ?_ ?_ se_bin; rotate_left 2) | (refine' pa_consQ ?_ ?_ se_lst; rotate_left 2) | (refine' pa_consQ ?_ ?_ se_callQ; rotate_left 2) | (refine' pa_consQ ?_ ?_ se_lc; rotate_left 2)))
local macro_rules | `(tactic|room) => `(tactic| (intro vs H Q E h; repeat (first | (obtain ⟨e, _⟩ := h; subst e; rfl) | (obtain ⟨_, h⟩ := h))))
local macro_rules | `(tactic|x_go) => `(tactic| ((try dsimp only [cxOf, Cx.nox, Cx.wish]); (conv in (L2.start _ _) => simp only [L2.start, Qu, List.map_nil, Xp, List.length_nil, List.replicate_succ, List.replicate_zero, List.cons_append, List.nil_append, Nat.reduceAdd, Nat.reduceSub]); have big : 100000 < sizeLine := by decide))
local macro_rules | `(tactic|kt_k) => `(tactic| (with_reducible first | refine s_seq ?_ | refine s_if ?_ | refine s_next ?_ | refine i_or ?_ | refine s_nameQ ?_ | refine s_ret ?_))
local macro_rules|`(tactic|lk)=>`(tactic|repeat walk_at "vc")
local macro_rules|`(tactic|fin2)=>`(tactic|exact⟨rfl,rfl,rfl,by decide +kernel,rfl,by decide +kernel,by decide +kernel⟩)
def sg (b:Bool):V:=if b then .str "1" else .str "0"
variable {i n c j:Nat} {z x row:Str}
theorem nZ (st:StOk n z) (hi:i<n):iJ z i=sg (z.cps.getD i 0==49):=by
 have hl:=st.len;have e:z.cps.getD i 0=z.cps[i]'(by omega):=by simp[Array.getD,hl,hi]
 have:z.cps.getD i 0=48\/z.cps.getD i 0=49:=by
  rw[e];exact st.signs _ (by simp)
 unfold iJ;rcases this with e|e
 ·rw[e];decide +kernel
 rw[e];decide +kernel
def cr (z:Str) (i:Nat):Str:=if (z.cps.getD i 0==49)=true then "0" else "1"
def c_ (z:Str) (i:Nat):Str:=(Txt.slice z none (some (i:Int))++cr z i)++Txt.slice z (some ((i:Int)+1)) none
def gz:Sp:=λvs H Q _=>∃(z:Str) (n i:Nat),vs=[.str z,.int (i:Int)]/\StOk n z/\i<n/\n<=11/\Q (.str (c_ z i)) H
variable {P:Program} {w:World} {K:PySem.W.Frag} {mg:A2} {base:Heap} {TT:Addr}
section
theorem o0 {n:Nat} {z:Str} (st:StOk n z) {i:Nat} (hi:i<n):atI z.cps.toList ((i:Nat):Int)=some (z.cps.getD i 0):=by
 have hl:=st.len;refine bA ?_;simp[Array.getD,hl,hi]
theorem jq:FnScope ["standing", "place"] ["standing", "place"] (ax (top 2)):=by fin2
theorem pG {f:Addr} {fd:FuncData} (Fu:Fun K "turned_at" "turned_at" (top 2) f fd) (T:Txt K mg TT):FnOk P w K mg base CX0 1 f fd ["standing", "place"] gz:=by
 have S:=jq;refine Fu.ok S (by room) (λcdv A outer s H vs Q E hr h=>?_);obtain⟨z,n,i,rfl,st,hi,hn,k⟩:=h;refine⟨_,(pss_one (aU (aF bM (aF bM (cg eX (pv 0) cO (cN (pv 1))) (aq (uw T.tab) (jA (v:=.ref TT) (by rfl) T.tURNED rfl) (aq dH (pv 0) (pv 1)))) (cg eX (pv 0) (cN (aF bV (pv 1) af)) cO)))),?_⟩;x_go;have hz:z.length=n:=st.len;have big:1000<sizeLine:=by decide
 lk;have s1:=Txt.slice_le z none (some (i:Int));have s2:=Txt.slice_le z (some ((i:Int)+1)) none
 have fl:(cr z i).length=1:=by
  unfold cr
  split
  ·decide +kernel
  decide +kernel
 refine gX (by omega) ?_;refine i_op (i_c ?_);refine i_op (aH rfl (aH rfl (fD (by omega) (o0 st hi) ?_)));have e:=nZ st hi;unfold iJ at e;rw[e]
 have step:∀(b:Bool) (G:VK),G (.str (if b=true then "0" else "1")) H->oh TT (.ref TT) (sg b) H G:=λb G g=>by
  cases b
  ·exact⟨rfl,.inl ⟨rfl,g⟩⟩
  exact⟨rfl,.inr ⟨rfl,g⟩⟩
 refine step _ _ ?_;show ∃i_1 j,V.str _=V.str i_1/\V.str (cr z i)=V.str j/\_;have l1:(Txt.slice z none (some (i:Int))++cr z i).length=(Txt.slice z none (some (i:Int))).length+(cr z i).length:=Array.size_append;refine⟨_,_,rfl,rfl,by omega,?_⟩;lk;refine gX (by omega) ?_;exact⟨_,_,rfl,rfl,by rw[l1];omega,k⟩
end
theorem gY {xs:Array Nat}:∀(j a:Nat),a+j<=xs.size->((List.range j).map λk=>a+k).filterMap (xs[·]?)=(xs.toList.drop a).take j
 | 0,a,_=>by simp
 | j+1,a,h=>by
  rw[List.range_succ,Q3,List.filterMap_append,gY j a (by omega),List.take_succ];have e:(xs.toList.drop a)[j]?=xs[a+j]?:=by rw[List.getElem?_drop];simp
  rw[e];have q:xs[a+j]?=some (xs[a+j]'(by omega)):=by rw[QH]
  simp[q]
theorem gB {a b:Nat} {lo hi:Option Int} (hl:PySem.Builtin.Str.strSliceIndices lo hi 1 z.length=(List.range (b-a)).map λk=>a+k) (hb:b<=z.cps.size) (hab:a<=b):(Txt.slice z lo hi).cps.toList=(z.cps.toList.drop a).take (b-a):=by
 unfold Txt.slice;rw[hl]
 split
 ·rename_i h
  have h:b-a=z.length:=by simpa using h
  have h':z.length=z.cps.size:=rfl;have a0:a=0:=by omega
  subst a0;rw[List.drop_zero,Q4 (by rw[Ql];omega)]
 exact gY (b-a) a (by omega)
theorem km {z:Str} {j:Nat} (h:j<=z.cps.size):(Txt.slice z none (some (j:Int))).cps.toList=z.cps.toList.take j:=by
 have h':z.length=z.cps.size:=rfl;refine(gB (a:=0) (b:=j) ?_ h (QP _)).trans (by simp);unfold PySem.Builtin.Str.strSliceIndices sliceRange
 have e:max 0 (min (if (j:Int)<0 then (j:Int)+z.length else (j:Int)) (z.length:Int))=(j:Int):=by
  rw[Qr (Int.not_lt.mpr (Int.natCast_nonneg _)),Int.min_eq_left (show _<=(z.length:Int) from Int.ofNat_le.mpr h),Int.max_eq_right (Int.natCast_nonneg _)]
 simp only[show (1:Int)>0 from by decide,if_true,e]
 have c:(if (0:Int)<(j:Int) then ((j:Int)-0+1-1) / 1 else 0).toNat=j-0:=by
  rw[Int.ediv_one,Int.add_sub_cancel,Int.sub_zero,Nat.sub_zero]
  split
  ·rfl
  omega
 rw[c];refine List.map_congr_left λk _=>?_;omega
theorem gC {z:Str} {a:Nat} (h:a<=z.cps.size):(Txt.slice z (some (a:Int)) none).cps.toList=z.cps.toList.drop a:=by
 have h':z.length=z.cps.size:=rfl;refine(gB (a:=a) (b:=z.cps.size) ?_ (Qg _) h).trans (by rw[Q4 (by rw[XS,Ql];omega)]);unfold PySem.Builtin.Str.strSliceIndices sliceRange
 have e:max 0 (min (if (a:Int)<0 then (a:Int)+z.length else (a:Int)) (z.length:Int))=(a:Int):=by
  rw[Qr (Int.not_lt.mpr (Int.natCast_nonneg _)),Int.min_eq_left (show _<=(z.length:Int) from Int.ofNat_le.mpr h),Int.max_eq_right (Int.natCast_nonneg _)]
 simp only[show (1:Int)>0 from by decide,if_true,e]
 have c:(if (a:Int)<(z.length:Int) then ((z.length:Int)-(a:Int)+1-1) / 1 else 0).toNat=z.cps.size-a:=by
  rw[Int.ediv_one,Int.add_sub_cancel,h']
  split
  ·rw[<-Int.ofNat_sub h];rfl
  omega
 rw[c];refine List.map_congr_left λk _=>?_;omega
theorem jh (st:StOk n z) (hi:i<n):StOk n (c_ z i):=by
 have hl:=st.len;have a:=km (z:=z) (j:=i) (by omega);have b:=gC (z:=z) (a:=i+1) (by omega);rw[show ((i+1:Nat):Int)=(i:Int)+1 from by omega]at b
 have f:(cr z i).cps.toList=[48]\/(cr z i).cps.toList=[49]:=by
  unfold cr
  split
  ·exact .inl (by decide +kernel)
  exact .inr (by decide +kernel)
 have e:(c_ z i).cps.toList=(z.cps.toList.take i++(cr z i).cps.toList)++z.cps.toList.drop (i+1):=by
  unfold c_;show ((_++_)++_:Array Nat).toList=_;rw[Array.toList_append,Array.toList_append,a,b]
 refine⟨?_,λc hc=>?_⟩
 ·rw[<-Ql,e,Qn,Qn,QO,XS,Ql];have:(cr z i).cps.toList.length=1:=by rcases f with f|f <;> rw[f] <;> rfl
  omega
 rw[e]at hc;rcases Qw.mp hc with h|h
 ·rcases Qw.mp h with h|h
  ·exact st.signs c (List.mem_of_mem_take h)
  rcases f with f|f
  ·rw[f]at h;exact .inl (by simpa using h)
  rw[f]at h;exact .inr (by simpa using h)
 exact st.signs c (List.mem_of_mem_drop h)
theorem turn_list (st:StOk n z) (hi:i<n):(c_ z i).cps.toList=z.cps.toList.take i++(if (z.cps.getD i 0==49)=true then 48 else 49)::z.cps.toList.drop (i+1):=by
 have hl:=st.len;have a:=km (z:=z) (j:=i) (by omega);have b:=gC (z:=z) (a:=i+1) (by omega);rw[show ((i+1:Nat):Int)=(i:Int)+1 from by omega]at b
 have f:(cr z i).cps.toList=[if (z.cps.getD i 0==49)=true then 48 else 49]:=by
  unfold cr
  split
  ·decide +kernel
  decide +kernel
 unfold c_;show ((_++_)++_:Array Nat).toList=_;rw[Array.toList_append,Array.toList_append,a,b,f];simp
variable {b l a li lo L nl N ln T TL:Addr} {H H' H1 H2 H0:Hp}
theorem bx (S:ak H H') (h:H' b=none):H b=none:=by
 cases e:H b with
 | none=>rfl
 | some o=>rw[S b o e]at h;cases h
theorem bN {D:Addr} {xs:List V} {o:HO} (h:H D=some (.lst xs)):aY H (upd H D o):=λb ys e=>by
 rw[ah (λz=>by rw[z,h]at e;cases e)];exact e
section
variable {α β:Type} {K:PySem.W.Frag} {J:It} {H1:Hp} {D:Addr} {σ0:St} {g:TG} {te:TE} {tt:L2.TT} {QD:Hp->Prop}
theorem cm (xs:List α) (c:α->Bool) (R:Hp->V->α->Prop) (hD:H1 D=none) (few:xs.length<=100000) (mono:∀H H' v x,aY H H'->R H v x->R H' v x)
  (go:∀i H,ak H1 H->i<xs.length->J.go i H) (stop:∀H,ak H1 H->J.stop xs.length H)
  (hs:∀i x H v H',xs[i]?=some x->ak H1 H->J.yld i H v H'->∀(G:V->Hp->Prop) (N:Hp->Prop),(c x=true->∀u H2,ak H H2->R H2 u x->G u H2)->(c x=false->∀H2,ak H H2->N H2)->g v σ0 H' λσ2 H2=>wk σ0 σ2/\tt σ2 H2 λb H3=>if b=true then te σ2 H3 G else N H3)
  (hd:∀H ys,ak H1 H->H D=some (.lst ys)->Paired (R H) ys (xs.filter c)->QD H) :
  ∃W:Nat->Nat->Hp->List V->Prop,(∃m,W 0 m (upd H1 D (.lst [])) [])/\∀i m H ys,W i m H ys->H D=some (.lst ys)/\((J.stop i H/\QD H)\/(J.go i H/\∀x H',J.yld i H x H'->g x σ0 H' λσ2 H2=>wk σ0 σ2/\tt σ2 H2 λb H3 =>
   if b=true then te σ2 H3 λv H4=>H4 D=some (.lst ys)/\ys.length<sizeLine/\∃m',m'<m/\W (i+1) m' (upd H4 D (.lst (ys++[v]))) (ys++[v]) else ∃m',m'<m/\W (i+1) m' H3 ys)):=by
 refine⟨λi m H ys=>m=xs.length-i/\i<=xs.length/\ak H1 H/\H D=some (.lst ys)/\Paired (R H) ys ((xs.take i).filter c),⟨_,rfl,QP _,aA hD,ag,by rw[List.take_zero];exact .nil⟩,?_⟩;rintro i m H ys ⟨rfl,hi,S,hy,p⟩;refine⟨hy,?_⟩;by_cases hl:i<xs.length
 ·refine .inr ⟨go i H S hl,λv H' y=>?_⟩;have ex:xs[i]?=some xs[i]:=Qc hl;have hm:xs.length-(i+1)<xs.length-i:=by omega
  refine hs i xs[i] H v H' ex S y _ _ (λct u H2 S2 r=>?_) (λcf H2 S2=>?_)
  ·have yl:ys.length<=xs.length:=by
    rw[ao p];refine QG (XA _ _) ?_;rw[QO];omega
   have hy2:=S2 _ _ hy;have kt:=bN (o:=.lst (ys++[u])) hy2;refine⟨hy2,XG yl (XG few (by decide)),_,hm,rfl,hl,ca (S.trans S2) hD,ag,?_⟩;rw[List.take_succ,ex,List.filter_append];have e:(some xs[i]).toList.filter c=[xs[i]]:=by simp[ct]
   rw[e];exact aV (ac (λv x r=>mono _ _ v x kt (mono _ _ v x (ak.tups S2) r)) p) (mono _ _ u _ kt r)
  refine⟨_,hm,rfl,hl,S.trans S2,S2 _ _ hy,?_⟩;rw[List.take_succ,ex,List.filter_append];have e:(some xs[i]).toList.filter c=[]:=by simp[cf]
  rw[e,List.append_nil];exact ac (λv x r=>mono _ _ v x (ak.tups S2) r) p
 obtain rfl:i=xs.length:=by omega
 rw[Q4 (Qg _)]at p;exact .inl ⟨stop H S,hd H ys S hy p⟩
variable {xs:List α} {vs:List V} {a b:Addr}
theorem cP {I:V->α->Prop} (c:α->Bool) (R:Hp->V->α->Prop) (hD:H1 D=none) (e:H1 a=some (.lst vs)) (pa:Paired I vs xs) (few:xs.length<=100000) (mono:∀H H' v x,aY H H'->R H v x->R H' v x)
  (hs:∀v x H,I v x->x∈xs->ak H1 H->∀(G:V->Hp->Prop) (N:Hp->Prop),(c x=true->∀u H2,ak H H2->R H2 u x->G u H2)->(c x=false->∀H2,ak H H2->N H2)->g v σ0 H λσ2 H2=>wk σ0 σ2/\tt σ2 H2 λb H3=>if b=true then te σ2 H3 G else N H3)
  (hd:∀H ys,ak H1 H->H D=some (.lst ys)->Paired (R H) ys (xs.filter c)->QD H) :
  ∃W:Nat->Nat->Hp->List V->Prop,(∃m,W 0 m (upd H1 D (.lst [])) [])/\∀i m H ys,W i m H ys->H D=some (.lst ys)/\(((Itl K a).stop i H/\QD H)\/((Itl K a).go i H/\∀x H',(Itl K a).yld i H x H'->g x σ0 H' λσ2 H2=>wk σ0 σ2/\tt σ2 H2 λb H3 =>
   if b=true then te σ2 H3 λv H4=>H4 D=some (.lst ys)/\ys.length<sizeLine/\∃m',m'<m/\W (i+1) m' (upd H4 D (.lst (ys++[v]))) (ys++[v]) else ∃m',m'<m/\W (i+1) m' H3 ys)):=by
 have l:=ao pa;refine cm xs c R hD few mono (λi H S hi=>⟨vs,vs[i],SqL.of (S _ _ e),Qc _⟩) (λH S=>⟨vs,SqL.of (S _ _ e),by omega⟩) (λi x H v H' ex S y=>?_) hd;obtain⟨e',y⟩:=y;subst e';obtain⟨v',ev,r⟩:=a9 pa ex;cases ev.symm.trans (y vs (SqL.of (S _ _ e)));exact hs v x _ r (Qk ex) S
theorem f8 {us:List β} {i:Nat} {x:α} {u:β} (h1:xs[i]?=some x) (h2:us[i]?=some u):(xs.zip us)[i]?=some (x,u):=by
 rw[List.getElem?_zip_eq_some];exact⟨h1,h2⟩
def Sqv (t:Bool) (H:Hp) (a:Addr) (vs:List V):Prop:=if t=true then H a=some (.tup vs) else H a=some (.lst vs)
theorem Sqv.of {t:Bool} {H:Hp} (h:Sqv t H a vs):SqS t K H a vs:=by
 cases t with
 | true=>exact SqT.of h
 | false=>exact SqL.of h
theorem Sqv.same {t:Bool} {H H':Hp} (S:ak H H') (h:Sqv t H a vs):Sqv t H' a vs:=by
 cases t with
 | true=>exact S _ _ h
 | false=>exact S _ _ h
theorem m_ {t1 t2:Bool} {ws:List V} {us:List β} {I1:V->α->Prop} {I2:V->β->Prop} (c:α × β->Bool) (R:Hp->V->α × β->Prop) (hD:H1 D=none) (e1:Sqv t1 H1 a vs) (e2:Sqv t2 H1 b ws) (p1:Paired I1 vs xs) (p2:Paired I2 ws us) (hl:xs.length=us.length) (few:xs.length<=100000) (mono:∀H H' v x,aY H H'->R H v x->R H' v x)
  (hs:∀v x w u T H,I1 v x->I2 w u->(x,u)∈xs.zip us->ak H1 H->H T=some (.tup [v,w])->∀(G:V->Hp->Prop) (N:Hp->Prop),(c (x,u)=true->∀y H2,ak H H2->R H2 y (x,u)->G y H2)->(c (x,u)=false->∀H2,ak H H2->N H2)->g (.ref T) σ0 H λσ2 H2=>wk σ0 σ2/\tt σ2 H2 λb H3=>if b=true then te σ2 H3 G else N H3)
  (hd:∀H ys,ak H1 H->H D=some (.lst ys)->Paired (R H) ys ((xs.zip us).filter c)->QD H) :
  ∃W:Nat->Nat->Hp->List V->Prop,(∃m,W 0 m (upd H1 D (.lst [])) [])/\∀i m H ys,W i m H ys->H D=some (.lst ys)/\(((lY t1 t2 K a b).stop i H/\QD H)\/((lY t1 t2 K a b).go i H/\∀x H',(lY t1 t2 K a b).yld i H x H'->g x σ0 H' λσ2 H2=>wk σ0 σ2/\tt σ2 H2 λb H3 =>
   if b=true then te σ2 H3 λv H4=>H4 D=some (.lst ys)/\ys.length<sizeLine/\∃m',m'<m/\W (i+1) m' (upd H4 D (.lst (ys++[v]))) (ys++[v]) else ∃m',m'<m/\W (i+1) m' H3 ys)):=by
 have l1:=ao p1;have l2:=ao p2;have lz:(xs.zip us).length=xs.length:=by rw[List.length_zip];omega
 refine cm (xs.zip us) c R hD (by omega) mono (λi H S hi=>⟨⟨vs,vs[i],(e1.same S).of,Qc _⟩,ws,ws[i],(e2.same S).of,Qc _⟩) (λH S=>⟨vs,(e1.same S).of,by omega⟩) (λi x H v H' ex S y=>?_) hd;obtain⟨T,v',w',hT,ex',eH,y1,y2⟩:=y;subst ex' eH;obtain⟨x,u⟩:=x;obtain⟨g1,g2⟩:=List.getElem?_zip_eq_some.mp ex;obtain⟨v1,ev1,r1⟩:=a9 p1 g1;obtain⟨w1,ew1,r2⟩:=a9 p2 g2;cases ev1.symm.trans (y1 vs (e1.same S).of);cases ew1.symm.trans (y2 ws (e2.same S).of);intro G N hG hN;have ST:=aA (o:=.tup [v',w']) hT;exact hs v' x w' u T _ r1 r2 (Qk ex) (S.trans ST) ag G N (λct y H2 S2 r=>hG ct y H2 (ST.trans S2) r) (λcf H2 S2=>hN cf H2 (ST.trans S2))
end
abbrev Tu:=Str × Str
structure Arc where
 one:Tu
 two:Tu
 mark:Int
structure Rg where
 ins:List Str
 outs:List Str
 z:Str
 arcs:List Arc
def Rg.ws (r:Rg):List Str:=r.ins++r.outs
def c7 (ws:List Str) (t:Tu):Prop:=t.1∈ws/\(t.2 = "+" \/ t.2 = "-")
structure ArOk (ws:List Str) (a:Arc):Prop where
 o:c7 ws a.one
 t:c7 ws a.two
 ne:a.one≠a.two
 m:a.mark=0\/a.mark=1
structure RgOk (r:Rg):Prop where
 nd:r.ws.Nodup
 w1:1<=r.ws.length
 w5:r.ws.length<=5
 st:StOk r.ws.length r.z
 few:r.arcs.length<=1000
 arcs:∀a∈r.arcs,ArOk r.ws a
def TuA (H:Hp) (v:V) (t:Tu):Prop:=∃b,v=.ref b/\H b=some (.tup [.str t.1,.str t.2])
def ArA (H:Hp) (v:V) (a:Arc):Prop:=∃b v1 v2,v=.ref b/\H b=some (.tup [v1,v2,.int a.mark])/\TuA H v1 a.one/\TuA H v2 a.two
variable {v u:V}
theorem TuA.kt {t:Tu} (k:aY H H') (h:TuA H v t):TuA H' v t:=let ⟨b,e,q⟩:=h;⟨b,e,k _ _ q⟩
theorem ArA.kt {a:Arc} (k:aY H H') (h:ArA H v a):ArA H' v a:=let ⟨b,v1,v2,e,q,h1,h2⟩:=h;⟨b,v1,v2,e,k _ _ q,h1.kt k,h2.kt k⟩
structure ArsA (H:Hp) (l:Addr) (vs:List V) (as:List Arc):Prop where
 h:H l=some (.lst vs)
 p:Paired (ArA H) vs as
variable {as:List Arc} {vs:List V}
theorem ArsA.same {H':Hp} (S:ak H H') (h:ArsA H l vs as):ArsA H' l vs as:=⟨S _ _ h.h,ac (λ_ _ q=>q.kt (ak.tups S)) h.p⟩
structure RgA (H:Hp) (a li lo l:Addr) (vs:List V) (r:Rg):Prop where
 ha:H a=some (.tup [.ref li,.ref lo,.str r.z,.ref l])
 hi:H li=some (.lst (r.ins.map V.str))
 ho:H lo=some (.lst (r.outs.map V.str))
 arcs:ArsA H l vs r.arcs
variable {r:Rg}
theorem RgA.same {H':Hp} (S:ak H H') (h:RgA H a li lo l vs r):RgA H' a li lo l vs r:=⟨S _ _ h.ha,S _ _ h.hi,S _ _ h.ho,h.arcs.same S⟩
def tk2 (t:Tu):av:=[.inl (.inr t.1),.inl (.inr t.2)]
theorem dC {x y:Tu} (h:tk2 x=tk2 y):x=y:=by
 unfold tk2 at h;simp only[List.cons.injEq,Sum.inl.injEq,Sum.inr.injEq]at h;exact Prod.ext h.1 h.2.1
theorem TuA.tk {t:Tu} (h:TuA H (.ref b) t):bK H (tk2 t) b:=by
 obtain⟨_,e,q⟩:=h;cases e;exact⟨_,q,.cons rfl (.cons rfl .nil)⟩
theorem TuA.of {t:Tu} (h:bK H (tk2 t) b):TuA H (.ref b) t:=by
 obtain⟨vs,q,p⟩:=h
 cases p with
 | cons r1 p=>cases p with
  | cons r2 p =>
   cases p;cases r1;cases r2;exact⟨b,rfl,q⟩
variable {Q:VK}
theorem dI {K:PySem.W.Frag} {neg:Bool} {x y:Tu} (h1:TuA H u x) (h2:TuA H v y) (q:Q (.bl (if neg=true then !decide (x=y) else decide (x=y))) H):re K neg u v H Q:=by
 obtain⟨a,e,_⟩:=id h1;subst e;obtain⟨b,e,_⟩:=id h2;subst e;refine xX h1.tk h2.tk rfl ?_;have e:decide (tk2 x=tk2 y)=decide (x=y):=XT.mpr ⟨dC,λh=>by rw[h]⟩;rw[e];exact q
variable {ts way d:List Tu}
theorem l9 (h:Paired (TuA H) vs ts):∃bs:A3,vs=bs.map V.ref/\KsA H bs (ts.map tk2):=by
 induction h with
 | nil=>exact⟨[],rfl,.nil⟩
 | @cons v t _ _ r _ ih =>
 obtain⟨bs,e,p⟩:=ih;obtain⟨b,e1,q⟩:=id r;subst e1;exact⟨b::bs,by rw[e];rfl,.cons r.tk p⟩
variable {ks us ks':List av}
theorem sw {bs:A3} (h:KsA H bs ks) (hk:∀k∈ks,∃t,k=tk2 t):∃ts:List Tu,ks=ts.map tk2/\Paired (TuA H) (bs.map V.ref) ts:=by
 induction h with
 | nil=>exact⟨[],rfl,.nil⟩
 | @cons b k _ _ r _ ih =>
 obtain⟨ts,e,p⟩:=ih λk hk'=>hk k (Qo _ hk');obtain⟨t,rfl⟩:=hk k (by simp);exact⟨t::ts,by rw[e];rfl,.cons (TuA.of r) p⟩
theorem jp (ts:List Tu):tL true (ts.map tk2):=by
 refine⟨λx hx y hy=>?_,λx hx=>?_⟩
 ·obtain⟨t,_,rfl⟩:=Qj.mp hx;obtain⟨u,_,rfl⟩:=Qj.mp hy;rfl
 obtain⟨t,_,rfl⟩:=Qj.mp hx;exact⟨_,_,rfl⟩
def leT (x y:Tu):Prop:=leF (tk2 x) (tk2 y)
theorem sj {x y:Tu} (h1:leT x y) (h2:leT y x):x=y:=by
 have h:=Tm.lh h1 h2;have:[Sum.inr x.1,Sum.inr x.2]=([Sum.inr y.1,Sum.inr y.2]:List Key):=h;simp only[List.cons.injEq,Sum.inr.injEq]at this;exact Prod.ext this.1 this.2.1
structure WtOk (P:Tu->Prop) (ts:List Tu):Prop where
 nd:ts.Nodup
 mem:∀x,x∈ts↔P x
 so:ts.Pairwise leT
theorem gA {α:Type} {le:α->α->Prop} (anti:∀x y,le x y->le y x->x=y):∀{xs ys:List α},xs.Nodup->ys.Nodup->(∀x,x∈xs↔x∈ys)->xs.Pairwise le->ys.Pairwise le->xs=ys
 | [],[],_,_,_,_,_=>rfl
 | [],y::_,_,_,m,_,_=>absurd ((m y).mpr (by simp)) (by simp)
 | x::_,[],_,_,m,_,_=>absurd ((m x).mp (by simp)) (by simp)
 | x::xs,y::ys,n1,n2,m,s1,s2=>by
  rw[QN]at n1 n2;rw[List.pairwise_cons]at s1 s2
  have e:x=y:=by
   rcases Qh.mp ((m x).mp (by simp)) with h|h
   ·exact h
   rcases Qh.mp ((m y).mpr (by simp)) with h'|h'
   ·exact h'.symm
   exact anti _ _ (s1.1 _ h') (s2.1 _ h)
  subst e;refine congrArg (x::·) (gA anti n1.2 n2.2 (λz=>?_) s1.2 s2.2);have:=m z;by_cases c:z=x
  ·subst c;exact⟨λh=>absurd h n1.1,λh=>absurd h n2.1⟩
  simpa[c] using this
theorem WtOk.one {P P':Tu->Prop} {us:List Tu} (h:WtOk P ts) (g:WtOk P' us) (e:∀x,P x↔P' x):ts=us :=
 gA (λ_ _=>sj) h.nd g.nd (λx=>(h.mem x).trans ((e x).trans (g.mem x).symm)) h.so g.so
def kj:Sp:=λvs H Q _=>∃(a li lo l:Addr) (as:List V) (r:Rg) (row nm:Str),vs=[.ref a,.str row,.str nm]/\RgA H a li lo l as r/\RgOk r/\StOk r.ws.length row/\nm∈r.ws/\∀H',ak H H'->Q (.str (c_ row (r.ws.idxOf nm))) H'
def qL:Sp:=λvs H Q _=>∃(l:Addr) (as:List V) (r:Rg),vs=[.ref l]/\ArsA H l as r.arcs/\RgOk r/\∀p vs ts H',ak H H'->H p=none->H' p=some (.lst vs)->Paired (TuA H') vs ts->WtOk (λt=>∃a∈r.arcs,a.two=t) ts->Q (.ref p) H'
def mks (as:List Arc):List Int:=as.map (·.mark)
def nX:Sp:=λvs H Q _=>∃(l:Addr) (as:List V) (r:Rg),vs=[.ref l]/\ArsA H l as r.arcs/\RgOk r/\∀p H',ak H H'->H' p=some (.tup ((mks r.arcs).map V.int))->Q (.ref p) H'
theorem fW {ws:List Str} (h:x∈ws):ws[ws.idxOf x]?=some x:=by
 have hi:=QK h;rw[Qc hi];exact congrArg some (List.getElem_idxOf hi)
theorem eF {ws:List Str}:∀m,m<ws.idxOf x->ws[m]?≠some x:=λm hm e=>by
 have h1:=List.not_of_lt_findIdx (xs:=ws) (p:=(·==x)) (i:=m) hm;obtain⟨h2,e2⟩:=Qe.mp e;rw[e2]at h1;simp at h1
variable {α β:Type}
theorem bO (xs:List α):xs.filter (λ_=>true)=xs:=List.filter_eq_self.mpr (by simp)
theorem bL {α β γ:Type} {F:α->γ->Prop} {f:β->γ}:∀{xs:List α} {ys:List β},Paired (λx y=>F x (f y)) xs ys->Paired F xs (ys.map f)
 | _,_,.nil=>.nil
 | _,_,.cons h t=>.cons h (bL t)
theorem bW {α β:Type} {f:β->α}:∀{xs:List α} {ys:List β},Paired (λx y=>x=f y) xs ys->xs=ys.map f
 | _,_,.nil=>rfl
 | _,_,.cons h t=>by rw[h,bW t];rfl
theorem uJ (ok:RgOk r) (nd:us.Nodup) (h:∀x∈us,x∈(r.arcs.map (·.two)).map tk2):us.length<64:=by
 have:=Bf.pigeon us ((r.ws.map λn=>tk2 (n, "+"))++(r.ws.map λn=>tk2 (n, "-"))) nd λx hx=>by
  have hx:=h x hx;rw[Q0]at hx;obtain⟨a,ha,rfl⟩:=Qj.mp hx;obtain⟨h1,h2⟩:=(ok.arcs a ha).t;refine Qw.mpr ?_;rcases h2 with e|e
  ·exact .inl (Qj.mpr ⟨_,h1,by show tk2 _=tk2 _;rw[<-e]⟩)
  exact .inr (Qj.mpr ⟨_,h1,by show tk2 _=tk2 _;rw[<-e]⟩)
 rw[Qn,Qd,Qd]at this;have:=ok.w5;omega
variable {U σ0:St}
theorem mV {K:PySem.W.Frag} {ta:TA} (q:ta U H λvs H1=>∃(ks:List av) (b:Bool),nB K H1 vs ks/\tL b ks/\∀(p:Addr) (bs':A3) (us:List av),H1 p=none->KsA H1 bs' us->us.Nodup->(∀x,x∈us↔x∈ks)->us.Pairwise leF->Q (.ref p) (upd H1 p (.lst (bs'.map V.ref)))):iG K ta U H Q:=q
section
theorem eL:FnScope ["sheet", "row", "name"] ["sheet", "row", "name"] (ax (top 7)):=by fin2
variable {fd:FuncData}
theorem pJ {f:Addr} (Fu:Fun K "row_behind" "row_behind" (top 7) f fd) (T:Txt K mg TT) (f_turned_at:Fn P w K mg base "turned_at" ["standing", "place"] 1 gz):FnOk P w K mg base CX0 2 f fd ["sheet", "row", "name"] kj:=by
 have S:=eL;refine Fu.ok S (by room) (λcdv A outer s H vs Q E hr h=>?_);obtain⟨a,li,lo,l,as,sh,row,nm,rfl,at_,ok,st,hnm,k⟩:=h;refine⟨_,(pss_one (aU (aP f_turned_at hr (aa (pv 1) (aa (bE Qz Xc Xd fk (aF dm (aq az (pv 0) af) (aq az (pv 0) af)) (aa (pv 2) ad ae)) ad aZ) ae)))),?_⟩;x_go;have lw:(sh.ins.map V.str).length+(sh.outs.map V.str).length=sh.ws.length:=by rw[Qd,Qd];unfold Rg.ws;rw[Qn]
 have ha:=at_.ha;have w5:=ok.w5;lk;refine f9 at_.hi at_.ho (by rw[lw];omega) λp hp=>?_;rw[<-Q3];show tyV K "list" (.ref p) _/\_;refine⟨i_tyL ag,?_⟩;lk;refine⟨p,sh.ws,nm,sh.ws.idxOf nm,rfl,rfl,ag,fW hnm,eF,by omega,?_⟩;lk;exact⟨row,_,_,rfl,st,QK hnm,by omega,k _ (aA hp)⟩
theorem fK:FnScope ["arcs"] ["arcs"] (ax (top 12)):=by fin2
theorem t9 {f:Addr} (Fu:Fun K "waiting_turns" "waiting_turns" (top 12) f fd) (T:Txt K mg TT):FnOk P w K mg base CX0 2 f fd ["arcs"] qL:=by
 have S:=fK;refine Fu.ok S (by room) (λcdv A outer s H vs Q E hr h=>?_);obtain⟨l,as,r,rfl,at_,ok,k⟩:=h;have hu:=cL hr;refine⟨_,(pss_one (aU (kP rfl hu (by rfl) T.n_sorted (by rfl) T.n_set (aa (eM "arc" [] (a_ (pv 0)) (λ_ _ _ _=>(aq (dG (K:=K) rfl) (pv 0) af))) ad)))),?_⟩;x_go;lk;refine mV (bn (bS (s_list (aH rfl ⟨l,rfl,⟨_,SqL.of at_.h⟩,λD hD=>?_⟩))));refine cP (λ_=>true) (λH v (a:Arc)=>TuA H v a.two) hD at_.h at_.p (QG ok.few (by decide)) (λH H' v x k h=>h.kt k) (λv x H' ia mx S' G N hG _=>?_) (λH' ys S' hy p=>?_)
 ·obtain⟨b,v1,v2,rfl,hb,t1,t2⟩:=ia.kt (ak.tups S');refine aw ⟨trivial,i_yes (iteT ?_)⟩;lk;exact hG rfl _ H' (ak.refl _) t2
 rw[bO]at p;have p:=bL (f:=λa:Arc=>a.two) p;obtain⟨bs,e,ka⟩:=l9 p;subst e;refine bi ⟨_,true,⟨D,bs,rfl,SqL.of hy,ka,λk hk=>?_,λus nd h=>uJ ok nd h⟩,jp _,λq bs' us hq ka' nd mm so=>?_⟩
 ·obtain⟨t,_,rfl⟩:=Qj.mp hk;rfl
 obtain⟨ts,e,pt⟩:=sw ka' λk hk=>by obtain⟨t,_,e⟩:=Qj.mp ((mm k).mp hk);exact⟨t,e.symm⟩
 subst e;have S4:=aA (o:=.lst (bs'.map V.ref)) hq;refine k q _ ts _ (S'.trans S4) (bx S' hq) ag (ac (λ_ _ h=>h.kt (ak.tups S4)) pt) ⟨(QY.mp nd).imp λh e=>h (by rw[e]),λx=>?_,(QY.mp so).imp λh=>h⟩
 constructor
 ·intro hx;obtain⟨t,ht,e⟩:=Qj.mp ((mm _).mp (Qj.mpr ⟨x,hx,rfl⟩));obtain⟨a,ha,e2⟩:=Qj.mp ht;exact⟨a,ha,by rw[e2];exact dC e⟩
 rintro⟨a,ha,rfl⟩;obtain⟨t,ht,e⟩:=Qj.mp ((mm (tk2 a.two)).mpr (Qj.mpr ⟨_,Qj.mpr ⟨a,ha,rfl⟩,rfl⟩));rw[<-dC e];exact ht
theorem gE:FnScope ["arcs"] ["arcs"] (ax (top 13)):=by fin2
theorem rX {f:Addr} (Fu:Fun K "first_marks" "first_marks" (top 13) f fd) (T:Txt K mg TT):FnOk P w K mg base CX0 2 f fd ["arcs"] nX:=by
 have S:=gE;refine Fu.ok S (by room) (λcdv A outer s H vs Q E hr h=>?_);obtain⟨l,as,r,rfl,at_,ok,k⟩:=h;have hu:=cL hr;refine⟨_,(pss_one (aU (be cI (by rfl) T.n_tuple PyProof.Rows.boot_tuple (aa (eM "arc" [] (a_ (pv 0)) (λ_ _ _ _=>(aq (dG (K:=K) rfl) (pv 0) af))) ad)))),?_⟩;x_go;lk;refine bS (s_list (aH rfl ⟨l,rfl,⟨_,SqL.of at_.h⟩,λD hD=>?_⟩));refine cP (λ_=>true) (λH v (a:Arc)=>v=.int a.mark) hD at_.h at_.p (QG ok.few (by decide)) (λH H' v x k h=>h) (λv x H' ia mx S' G N hG _=>?_) (λH' ys S' hy p=>?_)
 ·obtain⟨b,v1,v2,rfl,hb,t1,t2⟩:=ia.kt (ak.tups S');refine aw ⟨trivial,i_yes (iteT ?_)⟩;lk;exact hG rfl _ H' (ak.refl _) rfl
 rw[bO]at p;refine bi ⟨D,ys,rfl,.inl ⟨SqL.of hy,λq hq=>?_⟩⟩;have e:ys=(mks r.arcs).map V.int:=by rw[bW p];unfold mks;rw[Q0];rfl
 subst e;exact k q _ (S'.trans (aA hq)) ag
end
def cq (as:List Arc) (ms:List Int) (t:Tu):Bool:=(as.zip ms).all λp=>!decide (p.1.two=t) || decide (0<p.2)
def mkB (a:Arc) (m:Int) (t:Tu):Int:=if a.one=t then m+1 else if a.two=t then m-1 else m
def fS (as:List Arc) (ms:List Int) (t:Tu):List Int:=(as.zip ms).map λp=>mkB p.1 p.2 t
structure MkOk (as:List Arc) (ms:List Int):Prop where
 len:ms.length=as.length
 m:∀m∈ms,m=0\/m=1
def vf:Sp:=λvs H Q _=>∃(l ma ta:Addr) (as:List V) (r:Rg) (ms:List Int) (t:Tu),vs=[.ref l,.ref ma,.ref ta]/\ArsA H l as r.arcs/\RgOk r/\H ma=some (.tup (ms.map V.int))/\MkOk r.arcs ms/\TuA H (.ref ta) t/\∀H',ak H H'->Q (.bl (cq r.arcs ms t)) H'
def qQ:Sp:=λvs H Q _=>∃(v:V) (m:Int) (ta:Addr) (a:Arc) (t:Tu),vs=[v,.int m,.ref ta]/\ArA H v a/\(m=0\/m=1)/\TuA H (.ref ta) t/\∀H',ak H H'->Q (.int (mkB a m t)) H'
def nU:Sp:=λvs H Q _=>∃(l ma ta:Addr) (as:List V) (r:Rg) (ms:List Int) (t:Tu),vs=[.ref l,.ref ma,.ref ta]/\ArsA H l as r.arcs/\RgOk r/\H ma=some (.tup (ms.map V.int))/\MkOk r.arcs ms/\TuA H (.ref ta) t/\∀p H',ak H H'->H' p=some (.tup ((fS r.arcs ms t).map V.int))->Q (.ref p) H'
theorem df:∀(ms:List Int),Paired (λv m=>v=V.int m) (ms.map V.int) ms
 | []=>.nil
 | _::ms=>.cons rfl (df ms)
section
theorem kB:FnScope ["arcs", "marks", "turn"] ["arcs", "marks", "turn"] (ax (top 14)):=by fin2
variable {fd:FuncData}
theorem wr {f:Addr} (Fu:Fun K "may_come" "may_come" (top 14) f fd) (T:Txt K mg TT):FnOk P w K mg base CX0 2 f fd ["arcs", "marks", "turn"] vf:=by
 have S:=kB;refine Fu.ok S (by room) (λcdv A outer s H vs Q E hr h=>?_);obtain⟨l,ma,ta,as,r,ms,t,rfl,at_,ok,hm,mok,tu,k⟩:=h;have hu:=cL hr;refine⟨_,(pss_one (aU (aM (tG rfl) (by rfl) T.n_all PyProof.Rows.boot_all (aa (gJ (tgs:=["arc", "mark"]) (cap:=[("turn", 2)]) rfl ⟨rfl,rfl,rfl,rfl,rfl,rfl⟩ (gk (by rfl) T.n_zip (aa (pv 0) (aa (pv 1) ad ae) ae)) (λ_ _ _ _=>(dD (K:=K) (n:=2) rfl rfl (aB (ba (i:=0) (show List.Nodup [("arc" : Str),("mark" : Str),("turn" : Str)] by decide +kernel) rfl (by z_go)) (aB (ba (i:=1) (show List.Nodup [("arc" : Str),("mark" : Str),("turn" : Str)] by decide +kernel) rfl (by z_go)) bI)))) (λ_ _ _ _=>(d4 (aD (jB (K:=K) rfl hr.units) (aq (dG (K:=K) rfl) (pv 0) af) (pv 2) (aG _)))) (λ_ _ _ _=>(cj kT (pv 1) af (aG _)))) ad)))),?_⟩;x_go;lk;refine bS (bn (aH rfl (bn (aH rfl (bi ⟨l,ma,false,true,rfl,⟨_,SqL.of at_.h⟩,⟨_,SqT.of hm⟩,λD hD=>?_⟩)))));refine m_ (λp=>decide (p.1.two=t)) (λH v p=>v=.bl (decide (0<p.2))) hD at_.h hm at_.p (df ms) mok.len.symm (QG ok.few (by decide)) (λH H' v x k h=>h) (λv x u m b H' ia im mx S' hb G N hG hN=>?_) (λH' ys S' hy p=>?_)
 ·obtain⟨c,v1,v2,rfl,hc,t1,t2⟩:=ia.kt (ak.tups S');cases im;refine⟨b,_,rfl,SqT.of hb,rfl,_,_,rfl,aw ⟨_,_,rfl,aw ⟨rfl,⟨rfl,trivial⟩,?_⟩⟩⟩;lk;refine dI t2 (tu.kt (ak.tups S')) ⟨_,rfl,?_⟩;dsimp only at hG hN ⊢;cases ct:decide (x.two=t)
  ·exact iteF (hN ct H' (ak.refl _))
  refine iteT ?_;lk;exact hG ct _ H' (ak.refl _) rfl
 refine bi ⟨D,(((r.arcs.zip ms).filter λp=>decide (p.1.two=t)).map λp=>decide (0<p.2)),rfl,?_,?_⟩
 ·rw[bW p]at hy;rw[Q0];exact SqL.of hy
 have e:((((r.arcs.zip ms).filter λp=>decide (p.1.two=t)).map λp=>decide (0<p.2)).all id)=cq r.arcs ms t:=by
  unfold cq;rw[List.all_map,List.all_filter];rfl
 rw[e];exact k H' S'
theorem gD:FnScope ["arc", "mark", "turn"] ["arc", "mark", "turn"] (ax (top 15)):=by fin2
theorem ue {f:Addr} (Fu:Fun K "mark_behind" "mark_behind" (top 15) f fd) (T:Txt K mg TT):FnOk P w K mg base CX0 2 f fd ["arc", "mark", "turn"] qQ:=by
 have S:=gD;refine Fu.ok S (by room) (λcdv A outer s H vs Q E hr h=>?_);obtain⟨v,m,ta,a,t,rfl,ia,hm,tu,k⟩:=h;have hu:=cL hr;obtain⟨b,v1,v2,rfl,hb,t1,t2⟩:=ia
 refine⟨_,(pss_cons (ps_if (aD (fR hr.units) (aq az (pv 0) af) (pv 2) (aG _)) (pss_one (aU (aF bV (pv 1) af))) pss_nil)
  (pss_one (aU (kQ (aD (fR hr.units) (aq az (pv 0) af) (pv 2) (aG _)) (aF fO (pv 1) af) (pv 1))))),?_⟩
 x_go;have k:=k H (ak.refl H);unfold mkB at k;lk;refine dI t1 tu ⟨_,rfl,?_⟩;by_cases c1:a.one=t
 ·rw[Qt c1]at k;refine ifT (Qx c1) ?_;lk;exact k
 rw[Qr c1]at k;refine ifF (Qv c1) ?_;lk;refine dI t2 tu ⟨_,rfl,?_⟩;by_cases c2:a.two=t
 ·rw[Qt c2]at k;refine ifT (Qx c2) ?_;lk;exact k
 rw[Qr c2]at k;refine ifF (Qv c2) ?_;lk;exact k
theorem ge:FnScope ["arcs", "marks", "turn"] ["arcs", "marks", "turn"] (ax (top 16)):=by fin2
theorem rS {f:Addr} (Fu:Fun K "marks_behind" "marks_behind" (top 16) f fd) (T:Txt K mg TT) (f_mark_behind:Fn P w K mg base "mark_behind" ["arc", "mark", "turn"] 2 qQ):FnOk P w K mg base CX0 3 f fd ["arcs", "marks", "turn"] nU:=by
 have S:=ge;refine Fu.ok S (by room) (λcdv A outer s H vs Q E hr h=>?_);obtain⟨l,ma,ta,as,r,ms,t,rfl,at_,ok,hm,mok,tu,k⟩:=h;have hu:=cL hr;refine⟨_,(pss_one (aU (be cI (by rfl) T.n_tuple PyProof.Rows.boot_tuple (aa (gJ (tgs:=["arc", "mark"]) (cap:=[("turn", 2)]) rfl ⟨rfl,rfl,rfl,rfl,rfl,rfl⟩ (gk (by rfl) T.n_zip (aa (pv 0) (aa (pv 1) ad ae) ae)) (λ_ _ _ _=>(dD (K:=K) (n:=2) rfl rfl (aB (ba (i:=0) (show List.Nodup [("arc" : Str),("mark" : Str),("turn" : Str)] by decide +kernel) rfl (by z_go)) (aB (ba (i:=1) (show List.Nodup [("arc" : Str),("mark" : Str),("turn" : Str)] by decide +kernel) rfl (by z_go)) bI)))) (λ_ _ _ _=>cW) (λ_ _ _ _=>(aP f_mark_behind hr (aa (pv 0) (aa (pv 1) (aa (pv 2) ad ae) ae) ae)))) ad)))),?_⟩;x_go;lk;refine bS (bn (aH rfl (bn (aH rfl (bi ⟨l,ma,false,true,rfl,⟨_,SqL.of at_.h⟩,⟨_,SqT.of hm⟩,λD hD=>?_⟩)))));refine m_ (λ_=>true) (λH v p=>v=.int (mkB p.1 p.2 t)) hD at_.h hm at_.p (df ms) mok.len.symm (QG ok.few (by decide)) (λH H' v x k h=>h) (λv x u m b H' ia im mx S' hb G N hG hN=>?_) (λH' ys S' hy p=>?_)
 ·have ia:=ia.kt (ak.tups S');cases im;refine⟨b,_,rfl,SqT.of hb,rfl,_,_,rfl,aw ⟨_,_,rfl,aw ⟨rfl,⟨rfl,trivial⟩,i_yes (iteT ?_)⟩⟩⟩;lk;exact⟨v,m,ta,x,t,rfl,ia,mok.m m (List.of_mem_zip mx).2,tu.kt (ak.tups S'),λH2 S2=>hG rfl _ H2 S2 rfl⟩
 rw[bO]at p;refine bi ⟨D,ys,rfl,.inl ⟨SqL.of hy,λq hq=>?_⟩⟩;have e:ys=(fS r.arcs ms t).map V.int:=by rw[bW p];unfold fS;rw[Q0];rfl
 subst e;exact k q _ (S'.trans (aA hq)) ag
end
abbrev Pl:=List Int × Str
structure PlOk (r:Rg) (p:Pl):Prop where
 m:MkOk r.arcs p.1
 z:StOk r.ws.length p.2
def PlA (H:Hp) (v:V) (p:Pl):Prop:=∃b mb,v=.ref b/\H b=some (.tup [.ref mb,.str p.2])/\H mb=some (.tup (p.1.map V.int))
theorem PlA.kt {p:Pl} (k:aY H H') (h:PlA H v p):PlA H' v p:=let ⟨b,mb,e,h1,h2⟩:=h;⟨b,mb,e,k _ _ h1,k _ _ h2⟩
abbrev Sp1:=Tu × Pl
def StA (H:Hp) (v:V) (s:Sp1):Prop:=∃b v1 v2,v=.ref b/\H b=some (.tup [v1,v2])/\TuA H v1 s.1/\PlA H v2 s.2
theorem StA.kt {s:Sp1} (k:aY H H') (h:StA H v s):StA H' v s:=let ⟨b,v1,v2,e,h0,h1,h2⟩:=h;⟨b,v1,v2,e,k _ _ h0,h1.kt k,h2.kt k⟩
def bQ (r:Rg) (p:Pl) (t:Tu):Sp1:=(t,(fS r.arcs p.1 t,c_ p.2 (r.ws.idxOf t.1)))
def bU (r:Rg) (ts:List Tu) (p:Pl):List Sp1:=(ts.filter (cq r.arcs p.1)).map (bQ r p)
abbrev Wt (r:Rg) (ts:List Tu):Prop:=WtOk (λt=>∃a∈r.arcs,a.two=t) ts
theorem Wt.few (ok:RgOk r) (w:Wt r ts):ts.length<=10:=by
 have:=Bf.pigeon ts ((r.ws.map λn=>((n, "+"):Tu))++(r.ws.map λn=>((n, "-"):Tu))) w.nd λx hx=>by
  obtain⟨a,ha,rfl⟩:=(w.mem x).mp hx;obtain⟨h1,h2⟩:=(ok.arcs a ha).t;refine Qw.mpr ?_;rcases h2 with e|e
  ·exact .inl (Qj.mpr ⟨_,h1,Prod.ext rfl e.symm⟩)
  exact .inr (Qj.mpr ⟨_,h1,Prod.ext rfl e.symm⟩)
 rw[Qn,Qd,Qd]at this;have:=ok.w5;omega
theorem Wt.ok {r:Rg} {ts:List Tu} (ok:RgOk r) (w:Wt r ts) {t:Tu} (h:t∈ts):c7 r.ws t:=by
 obtain⟨a,ha,rfl⟩:=(w.mem t).mp h;exact(ok.arcs a ha).t
def nP:Sp:=λvs H Q _=>∃(a li lo l:Addr) (as:List V) (r:Rg) (v:V) (p:Pl),vs=[.ref a,v]/\RgA H a li lo l as r/\RgOk r/\PlA H v p/\PlOk r p/\∀q sv ts H',ak H H'->H q=none->H' q=some (.lst sv)->Wt r ts->Paired (StA H') sv (bU r ts p)->Q (.ref q) H'
theorem jO {m:Int}:∀{ns:List Int},inV (.int m) (ns.map V.int)=true↔m∈ns
 | []=>by simp[inV]
 | x::ns=>by
  have ih:=jO (m:=m) (ns:=ns);unfold inV at ih ⊢;rw[Qu,List.any_cons,Bool.or_eq_true,Qh,ih]
  have:eqV (.int x) (.int m)=true↔m=x:=by
   show (x==m)=true↔m=x;rw[beq_iff_eq];exact eq_comm
  rw[this]
theorem p7 (ns:List Int):(ns.map V.int).all cu=true:=by
 rw[List.all_map];exact Q7.mpr λ_ _=>rfl
def sgB (row:Str) (i:Nat):Bool:=row.cps.getD i 0==49
def fj (r:Rg) (row:Str) (s:Sp1):Option Str:=if sgB row (r.ws.idxOf s.1.1)=decide (s.1.2 = "+") then some "signs" else if 2∈s.2.1 then some "twice" else none
def wV:Option Str->V
 | none=>.non
 | some z=>.str z
def ve:Sp:=λvs H Q _=>∃(a li lo l:Addr) (as:List V) (r:Rg) (v u:V) (p:Pl) (s:Sp1),vs=[.ref a,v,u]/\RgA H a li lo l as r/\RgOk r/\PlA H v p/\PlOk r p/\StA H u s/\c7 r.ws s.1/\∀H',ak H H'->Q (wV (fj r p.2 s)) H'
section
theorem kw:FnScope ["ring_sheet", "place", "arcs", "steps", "turn"] ["ring_sheet", "place"] (ax (top 17)):=by fin2
theorem rP {f:Addr} {fd:FuncData} (Fu:Fun K "steps_at" "steps_at" (top 17) f fd) (T:Txt K mg TT) (f_waiting_turns:Fn P w K mg base "waiting_turns" ["arcs"] 2 qL) (f_may_come:Fn P w K mg base "may_come" ["arcs", "marks", "turn"] 2 vf) (f_marks_behind:Fn P w K mg base "marks_behind" ["arcs", "marks", "turn"] 3 nU) (f_row_behind:Fn P w K mg base "row_behind" ["sheet", "row", "name"] 2 kj):FnOk P w K mg base CX0 4 f fd ["ring_sheet", "place"] nP:=by
 have S:=kw;refine Fu.ok S (by room) (λcdv A outer s H vs Q E hr h=>?_);obtain⟨a,li,lo,l,as,r,v,p,rfl,at_,ok,pa,po,k⟩:=h;have hu:=cL hr;obtain⟨b,mb,rfl,hb,hmb⟩:=id pa
 refine⟨_,(pss_cons (ay 2 S.nd (aq az (pv 0) af))
  (pss_cons (ay 3 S.nd (pe_lst ad))
  (pss_cons (ps_for PassesOwn.never rfl (a_ (aP f_waiting_turns hr (aa (pv 2) ad ae))) (bv 4 S.nd)
  (pss_one (ps_if (mC (aP f_may_come hr (aa (pv 2) (aa (aq az (pv 1) af) (aa (pv 4) ad ae)) ae))) (pss_one (bH (bE Qz QV QW bj (pv 3) (aa (pe_tup (aa (pv 4) (aa (pe_tup (aa (aP f_marks_behind hr (aa (pv 2) (aa (aq az (pv 1) af) (aa (pv 4) ad ae)) ae)) (aa (aP f_row_behind hr (aa (pv 0) (aa (aq az (pv 1) af) (aa (aq az (pv 4) af) ad)) ae)) ad aZ) aZ)) ad se_tup) ae)) ad se_tup)))) pss_nil)))
  (pss_one (aU (pv 3)))))),?_⟩
 x_go;have ha:=at_.ha;lk;refine⟨by simp,λL hL=>aw ?_⟩;generalize hE:upd H L (.lst [])=H0;obtain⟨S0,q0⟩:=aj hL hE;refine s_seq (s_for (s_list (i_call (bn (aH rfl (bi ⟨l,as,r,rfl,at_.arcs.same S0,ok,λq tv ts H1 S1 nq hq pt wt=>⟨q,rfl,⟨_,SqL.of hq⟩,?_⟩⟩))))));have nLq:L≠q:=λz=>by rw[<-z,q0]at nq;cases nq
 let I1:IvF:=λi U H'=>(∃x,U=[some (.ref a),some (.ref b),some (.ref l),some (.ref L),x])/\ak H H'/\aY H1 H'/\H' q=some (.lst tv)/\∃sv,H' L=some (.lst sv)/\Paired (StA H') sv (bU r (ts.take i) p);refine cZ (xs:=tv) I1 ⟨⟨none,rfl⟩,S0.trans S1,λ_ _ e=>e,hq,[],S1 _ _ q0,.nil⟩ (λi U H' _ h=>SqL.of h.2.2.2.1) (λi x U H' ex h=>?_) (λU H' h=>?_)
 ·obtain⟨⟨x0,rfl⟩,Sm,kt,hq',sv,hL',ps⟩:=h;obtain⟨t,et,tu⟩:=paired_get pt ex;have tu:=tu.kt kt;obtain⟨ta,rfl,hta⟩:=id tu;have at':=at_.same Sm;have pa':=pa.kt (ak.tups Sm);have hb':=Sm _ _ hb;have hmb':=Sm _ _ hmb;have mt:t∈ts:=Qk et;have few:=Wt.few ok wt;have sl:=ao ps
  have sf:sv.length<=10:=by
   rw[sl];unfold bU;rw[Qd];refine QG (XA _ _) ?_;rw[QO];omega
  have big:1000<sizeLine:=by decide
  lk;refine⟨l,mb,ta,as,r,p.1,t,rfl,at'.arcs,ok,hmb',po.m,tu,λH2 S2=>⟨_,rfl,?_⟩⟩
  have et':(ts.take i).filter (cq r.arcs p.1)++(if cq r.arcs p.1 t=true then [t] else [])=(ts.take (i+1)).filter (cq r.arcs p.1):=by
   rw[List.take_succ,et,List.filter_append];congr 1;cases c:cq r.arcs p.1 t <;> simp[c]
  cases c:cq r.arcs p.1 t
  ·refine iteF (s_next ⟨⟨_,rfl⟩,Sm.trans S2,λb xs e=>S2 _ _ (kt b xs e),S2 _ _ hq',sv,S2 _ _ hL',?_⟩);rw[c,Qr Qm,List.append_nil]at et';unfold bU;rw[<-et'];exact ac (λ_ _ h=>h.kt (ak.tups S2)) ps
  refine iteT ?_;rw[c,Qt rfl]at et';have hL2:=S2 _ _ hL';have hb2:=S2 _ _ hb';lk;refine⟨l,mb,ta,as,r,p.1,t,rfl,at'.arcs.same S2,ok,S2 _ _ hmb',po.m,tu.kt (ak.tups S2),λm2 H3 S3 hm2=>?_⟩;have hb3:=S3 _ _ hb2;have S23:=S2.trans S3;have hta3:=S23 _ _ hta;lk;refine⟨a,li,lo,l,as,r,p.2,t.1,rfl,at'.same S23,ok,po.z,(Wt.ok ok wt mt).1,λH4 S4=>?_⟩;lk;refine⟨by simp[sizeLine],λp5 h5=>?_⟩;generalize hE5:upd H4 p5 _=H5;obtain⟨S5,q5⟩:=aj h5 hE5;lk;refine⟨by simp[sizeLine],λp6 h6=>?_⟩;generalize hE6:upd H5 p6 _=H6;obtain⟨S6,q6⟩:=aj h6 hE6;have S46:=(S23.trans S4).trans (S5.trans S6);have hL6:=S46 _ _ hL';refine bi (dQ hL6 (by omega) (s_next ?_));have ktu:=bN (o:=.lst (sv++[.ref p6])) hL6;refine⟨⟨_,rfl⟩,ca (Sm.trans S46) hL,λb xs e=>ktu _ _ (S46 _ _ (kt b xs e)),by rw[ah nLq.symm];exact S46 _ _ hq',_,ag,?_⟩;unfold bU;rw[<-et',Q3];refine aV (ac (λ_ _ h=>(h.kt (ak.tups S46)).kt ktu) ps) ?_;exact⟨p6,_,_,rfl,ktu _ _ q6,(tu.kt (ak.tups S46)).kt ktu,p5,m2,rfl,ktu _ _ (S6 _ _ q5),ktu _ _ (S6 _ _ (S5 _ _ (S4 _ _ hm2)))⟩
 obtain⟨⟨x0,rfl⟩,Sm,kt,hq',sv,hL',ps⟩:=h;rw[Q4 (Nat.le_of_eq (ao pt).symm)]at ps;exact s_ret (aH rfl (k L sv ts H' Sm hL hL' wt ps))
theorem kA:FnScope ["ring_sheet", "place", "step", "turn", "sign"] ["ring_sheet", "place", "step"] (ax (top 18)):=by fin2
theorem wq {f:Addr} {fd:FuncData} (Fu:Fun K "odd_word" "odd_word" (top 18) f fd) (T:Txt K mg TT):FnOk P w K mg base CX0 2 f fd ["ring_sheet", "place", "step"] ve:=by
 have S:=kA;refine Fu.ok S (by room) (λcdv A outer s H vs Q E hr h=>?_);obtain⟨a,li,lo,l,as,r,v,u,p,sp,rfl,at_,ok,pa,po,sa,tok,k⟩:=h;have hu:=cL hr;obtain⟨SA,tS1,tS2⟩:=T.sA;obtain⟨b,mb,rfl,hb,hmb⟩:=id pa;obtain⟨c,v1,v2,rfl,hc,t1,p2⟩:=id sa;obtain⟨d,rfl,hd⟩:=id t1;obtain⟨e,me,rfl,he,hme⟩:=id p2
 refine⟨_,(pss_cons (ay 3 S.nd (aq az (pv 2) af))
  (pss_cons (ay 4 S.nd (aq dH (aq az (pv 1) af) (bE Qz Xc Xd fk (aF dm (aq az (pv 0) af) (aq az (pv 0) af)) (aa (aq az (pv 3) af) ad))))
  (pss_cons (ps_if (aD rM (pv 4) (aq (wC tS2) (jA (v:=.ref SA) (by rfl) tS1 rfl) (aq az (pv 3) af)) (aG _)) (pss_one (aU bc)) pss_nil)
  (pss_one (aU (kQ (aD iR af (aq az (aq az (pv 2) af) af) rfl) bc rC)))))),?_⟩
 x_go;have ha:=at_.ha;lk;have w5:=ok.w5;have big:1000<sizeLine:=by decide
 have lw:(r.ins.map V.str).length+(r.outs.map V.str).length=r.ws.length:=by rw[Qd,Qd];unfold Rg.ws;rw[Qn]
 refine f9 at_.hi at_.ho (by rw[lw];omega) λp1 hp1=>?_;rw[<-Q3];generalize hE:upd H p1 _=H1;obtain⟨S1,q1⟩:=aj hp1 hE;have k:=k H1 S1;have hc:=S1 _ _ hc;have hd:=S1 _ _ hd;have he:=S1 _ _ he;have hme:=S1 _ _ hme;refine⟨i_tyL q1,?_⟩;lk;refine⟨p1,r.ws,sp.1.1,r.ws.idxOf sp.1.1,rfl,rfl,q1,fW tok.1,eF,by omega,?_⟩;have il:=QK tok.1;have hz:=po.z.len;refine fD (by show p.2.cps.size<=_;omega) (o0 po.z il) ?_;have es:=nZ po.z il;unfold iJ at es;rw[es];lk
 have key:∀(G:VK),(G (.bl (decide (sgB p.2 (r.ws.idxOf sp.1.1)=decide (sp.1.2 = "+")))) H1)->rc SA (.ref SA) (.str sp.1.2) H1 λy H2=>rNe (sg (p.2.cps.getD (r.ws.idxOf sp.1.1) 0==49)) y H2 G:=λG g=>by
  unfold sgB at g;rcases tok.2 with e|e
  ·rw[e]at g ⊢;refine⟨rfl,.inl ⟨rfl,?_⟩⟩;cases c:(p.2.cps.getD (r.ws.idxOf sp.1.1) 0==49)
   ·rw[c]at g;exact i_ne rfl g
   rw[c]at g;exact i_ne rfl g
  rw[e]at g ⊢;refine⟨rfl,.inr ⟨rfl,?_⟩⟩;cases c:(p.2.cps.getD (r.ws.idxOf sp.1.1) 0==49)
  ·rw[c]at g;exact i_ne rfl g
  rw[c]at g;exact i_ne rfl g
 refine key _ ⟨_,rfl,?_⟩;unfold fj at k;by_cases c1:sgB p.2 (r.ws.idxOf sp.1.1)=decide (sp.1.2 = "+")
 ·rw[Qt c1]at k;refine ifT (Qx c1) ?_;lk;exact k
 rw[Qr c1]at k;refine ifF (Qv c1) ?_;lk;refine⟨me,_,rfl,.inr (SqT.of hme),rfl,p7 _,_,rfl,?_⟩;by_cases c2:2∈sp.2.1
 ·rw[Qt c2]at k;refine ifT (jO.mpr c2) ?_;lk;exact k
 rw[Qr c2]at k;refine ifF (Bool.eq_false_iff.mpr λz=>c2 (jO.mp z)) ?_;lk;exact k
end
abbrev Nd:=List (Str × Nat)
inductive Res where
 | odd (way:List Tu) (word:Str)
 | many
 | sheet (nodes:List Nd)
structure Sx where
 ps:List Pl
 ws:List (List Tu)
noncomputable def cK (r:Rg) (row:Str) (way:List Tu):List Sp1->Sx->Nd->Res ⊕ (Sx × Nd)
 | [],x,nd=>.inr (x,nd)
 | s::ss,x,nd=>match fj r row s with
  | some w=>.inl (.odd (way++[s.1]) w)
  | none=>if s.2∈x.ps then cK r row way ss x (nd++[(s.1.1,x.ps.idxOf s.2)])
   else if x.ps.length=40 then .inl .many
   else cK r row way ss ⟨x.ps++[s.2],x.ws++[way++[s.1]]⟩ (nd++[(s.1.1,x.ps.length)])
def Sx.p (x:Sx) (i:Nat):Pl:=x.ps.getD i ([],Str.empty)
def Sx.wy (x:Sx) (i:Nat):List Tu:=x.ws.getD i []
noncomputable def outer (r:Rg) (ts:List Tu):Nat->Sx->List Nd->Res
 | 0,_,_=>.many
 | f+1,x,nds=>if nds.length<x.ps.length then
   match cK r (x.p nds.length).2 (x.wy nds.length) (bU r ts (x.p nds.length)) x [] with
   | .inl res=>res
   | .inr (x',nd)=>outer r ts f x' (nds++[nd])
  else .sheet nds
def Sx.first (r:Rg):Sx:=⟨[(mks r.arcs,r.z)],[[]]⟩
def unf (r:Rg) (ts:List Tu):Res:=outer r ts 41 (Sx.first r) []
theorem pO {x y z:Tu} (h1:leT x y) (h2:leT y z):leT x z:=by
 have h1:Tm.lb (Tm.flat (tk2 y)) (Tm.flat (tk2 x))=false:=h1;have h2:Tm.lb (Tm.flat (tk2 z)) (Tm.flat (tk2 y))=false:=h2;show Tm.lb (Tm.flat (tk2 z)) (Tm.flat (tk2 x))=false
 cases c:Tm.lb (Tm.flat (tk2 z)) (Tm.flat (tk2 x)) with
 | false=>rfl
 | true =>
 rcases Tm.jG (Tm.flat (tk2 z)) (Tm.flat (tk2 y)) with h|h|h
 ·rw[h2]at h;cases h
 ·rw[h,h1]at c;cases c
 rw[Tm.d9 h c]at h1;cases h1
theorem yp (xs:List Tu):∃us:List Tu,us.Nodup/\∀x,x∈us↔x∈xs:=by
 induction xs with
 | nil=>exact⟨[],.nil,λx=>Iff.rfl⟩
 | cons x xs ih =>
 obtain⟨us,nd,mm⟩:=ih;by_cases h:x∈us
 ·exact⟨us,nd,λy=>by rw[mm,Qh];exact⟨.inr,λz=>z.elim (λz=>z▸(mm x).mp h) id⟩⟩
 exact⟨x::us,QN.mpr ⟨h,nd⟩,λy=>by rw[Qh,Qh,mm]⟩
theorem wX (r:Rg):∃ts,Wt r ts:=by
 obtain⟨us,nd,mm⟩:=yp (r.arcs.map (·.two));have pm:=List.mergeSort_perm us (λx y=>!Tm.lb (Tm.flat (tk2 y)) (Tm.flat (tk2 x)));refine⟨us.mergeSort (λx y=>!Tm.lb (Tm.flat (tk2 y)) (Tm.flat (tk2 x))),pm.nodup_iff.mpr nd,λx=>?_,?_⟩
 ·rw[pm.mem_iff,mm,Qj]
 refine(List.pairwise_mergeSort (λa b c h1 h2=>?_) (λa b=>?_) us).imp λ{a b} h=>?_
 ·rw[Bool.not_eq_true']at h1 h2 ⊢;exact pO (x:=a) (y:=b) (z:=c) h1 h2
 ·rw[Bool.or_eq_true,Bool.not_eq_true',Bool.not_eq_true'];exact Tm.pP _ _
 rw[Bool.not_eq_true']at h;exact h
variable {ms:List Int}
theorem k6 {t:Tu} (h:ms.length=as.length):(fS as ms t).length=as.length:=by
 unfold fS;rw[Qd,List.length_zip];omega
theorem kg {p:Pl} {t:Tu} (po:PlOk r p) (tok:c7 r.ws t) (may:cq r.arcs p.1 t=true) (no2:2∉(bQ r p t).2.1):PlOk r (bQ r p t).2:=by
 refine⟨⟨k6 po.m.len,λm hm=>?_⟩,jh po.z (QK tok.1)⟩;have h2:m≠2:=λz=>no2 (z▸hm);have hm:m∈fS r.arcs p.1 t:=hm;unfold fS at hm;obtain⟨⟨a,n⟩,hz,rfl⟩:=Qj.mp hm;have hn:=po.m.m n (List.of_mem_zip hz).2;have hp:=Q7.mp may _ hz;dsimp only at hp h2 ⊢;unfold mkB at h2 ⊢;by_cases c1:a.one=t
 ·rw[Qt c1]at h2 ⊢;omega
 rw[Qr c1]at h2 ⊢;by_cases c2:a.two=t
 ·rw[Qt c2]at h2 ⊢;rw[Qx c2,XU,Bool.false_or,decide_eq_true_eq]at hp;omega
 rw[Qr c2];exact hn
def Sx.Ok (r:Rg) (x:Sx):Prop:=x.ws.length=x.ps.length/\1<=x.ps.length/\x.ps.length<=40/\(∀p∈x.ps,PlOk r p)/\∀w∈x.ws,w.length<x.ws.length
theorem Sx.p_mem {x:Sx} (h:i<x.ps.length):x.ps[i]?=some (x.p i):=by
 unfold Sx.p;rw[Qy,Qc h];rfl
theorem Sx.w_mem {x:Sx} {i:Nat} (h:i<x.ws.length):x.ws[i]?=some (x.wy i):=by
 unfold Sx.wy;rw[Qy,Qc h];rfl
theorem r8 (ok:RgOk r):PlOk r (mks r.arcs,r.z):=by
 refine⟨⟨Qd ..,λm hm=>?_⟩,ok.st⟩;obtain⟨a,ha,rfl⟩:=Qj.mp hm;exact(ok.arcs a ha).m
theorem sR (ok:RgOk r):(Sx.first r).Ok r:=⟨rfl,Qg _,(by decide:1<=40),λp hp=>by cases QB.mp hp;exact r8 ok,λw hw=>by cases QB.mp hw;exact Nat.zero_lt_one⟩
def tkP (p:Pl):av:=[.inr (p.1.map Sum.inl),.inl (.inr p.2)]
theorem oM:∀{xs ys:List Int},xs.map (Sum.inl:Int->Key)=ys.map Sum.inl->xs=ys
 | [],[],_=>rfl
 | [],_::_,h=>by simp at h
 | _::_,[],h=>by simp at h
 | x::xs,y::ys,h=>by
  rw[Qu,Qu]at h;injection h with h1 h2;rw[Sum.inl.inj h1,oM h2]
theorem jj {x y:Pl} (h:tkP x=tkP y):x=y:=by
 unfold tkP at h;simp only[List.cons.injEq,Sum.inl.injEq,Sum.inr.injEq]at h;exact Prod.ext (oM h.1) h.2.1
theorem PlA.tk {p:Pl} (h:PlA H (.ref b) p):bK H (tkP p) b:=by
 obtain⟨_,mb,e,q,q2⟩:=h;cases e;refine⟨_,q,.cons ⟨mb,rfl,?_⟩ (.cons rfl .nil)⟩;rw[q2,Q0];rfl
def o8 (H:Hp) (a:Addr) (ps:List Pl):Prop:=∃kvs,H a=some (.dT kvs)/\kvs.length<=ps.length/\∀p,aQ kvs (tkP p)=if p∈ps then some (.int (ps.idxOf p:Nat)) else none
theorem um (p:Pl) (h:H a=some (.dT [(tkP p,.int 0)])):o8 H a [p]:=by
 refine⟨_,h,Qg _,λq=>?_⟩;by_cases c:q=p
 ·subst c;rw[br rfl,Qt (by simp)];simp
 rw[bu (λz=>c (jj z).symm),Qr (by simpa using c)];rfl
variable {ps e:List Pl} {kvs:List (av × V)}
theorem ul {p:Pl} (hp:p∉ps) (hv:∀p,aQ kvs (tkP p)=if p∈ps then some (.int (ps.idxOf p:Nat)) else none) (q:Pl):aQ (bh kvs (tkP p) (.int (ps.length:Nat))) (tkP q)=if q∈ps++[p] then some (.int ((ps++[p]).idxOf q:Nat)) else none:=by
 rw[b9,hv,List.idxOf_append];by_cases c:q=p
 ·subst c;rw[Qt rfl,Qt (by simp),Qr hp];simp
 rw[Qr (λz=>c (jj z))];by_cases d:q∈ps
 ·rw[Qt d,Qt (by simp[d]),Qt d]
 rw[Qr d,Qr (by simp[c,d])]
def SgA (H:Hp) (v:V) (p:Str × Nat):Prop:=∃b,v=.ref b/\H b=some (.tup [.str p.1,.int (p.2:Int)])
def j4 (H:Hp) (l:Addr) (nd:Nd):Prop:=∃vs,H l=some (.lst vs)/\Paired (SgA H) vs nd
def j0 (H:Hp) (l:Addr) (w:List Tu):Prop:=∃vs,H l=some (.lst vs)/\Paired (TuA H) vs w
theorem SgA.kt {p:Str × Nat} (k:aY H H') (h:SgA H v p):SgA H' v p:=let ⟨b,e,q⟩:=h;⟨b,e,k _ _ q⟩
theorem j4.keep {nd:Nd} (k:aY H H') (kl:∀vs,H l=some (.lst vs)->H' l=some (.lst vs)) (h:j4 H l nd):j4 H' l nd:=let ⟨vs,e,q⟩:=h;⟨vs,kl _ e,ac (λ_ _ h=>h.kt k) q⟩
theorem j0.keep {w:List Tu} (k:aY H H') (kl:∀vs,H l=some (.lst vs)->H' l=some (.lst vs)) (h:j0 H l w):j0 H' l w:=let ⟨vs,e,q⟩:=h;⟨vs,kl _ e,ac (λ_ _ h=>h.kt k) q⟩
noncomputable def yh (H0 H:Hp) (v:V) (r:Rg):Res->Prop
 | .odd way w=>∃a l,v=.ref a/\H a=some (.tup [.str "odd", .ref l,.str w])/\H0 l=none/\j0 H l way
 | .many=>∃a,v=.ref a/\H a=some (.tup [.str "many"])
 | .sheet nds=>∃(a s li lo ln:Addr) (nas:A3),v=.ref a/\H a=some (.tup [.str "sheet", .ref s])/\H s=some (.tup [.ref li,.ref lo,.str r.z,.ref ln])/\H li=some (.lst (r.ins.map V.str))/\H lo=some (.lst (r.outs.map V.str))/\H ln=some (.lst (nas.map V.ref))/\Paired (j4 H) nas nds/\(li::lo::ln::nas).Nodup/\∀b∈li::lo::ln::nas,H0 b=none
def vb:Sp:=λvs H Q _=>∃(a li lo l:Addr) (as:List V) (r:Rg),vs=[.ref a]/\RgA H a li lo l as r/\RgOk r/\∀v ts H',ak H H'->Wt r ts->yh H H' v r (unf r ts)->Q v H'
theorem vt {Os:A3} (no:∀b∈Os,∀ys,H b≠some (.tup ys)) (kb:∀b o,H b=some o->b∉Os->H' b=some o):aY H H':=λb ys e=>kb b _ e λz=>no b z ys e
theorem bw {α β:Type} {F G:α->β->Prop}:∀{xs:List α} {ys:List β},Paired F xs ys->(∀a b,a∈xs->F a b->G a b)->Paired G xs ys
 | _,_,.nil,_=>.nil
 | _,_,.cons r t,h=>.cons (h _ _ (by simp) r) (bw t λa b ha=>h a b (Qo _ ha))
structure UI (H0 H:Hp) (Lp Ln Lw Lo:Addr) (x:Sx) (pv:List V) (was nas:A3) (nds:List Nd):Prop where
 s:ak H0 H
 p:H Lp=some (.lst pv)
 pp:Paired (PlA H) pv x.ps
 n:o8 H Ln x.ps
 w:H Lw=some (.lst (was.map V.ref))
 wp:Paired (j0 H) was x.ws
 o:H Lo=some (.lst (nas.map V.ref))
 op:Paired (j4 H) nas nds
 ap:∀b∈was++nas,b∉[Lp,Ln,Lw,Lo]
 nd:nas.Nodup
 nw:∀b∈nas,H0 b=none
 dl:[Lp,Ln,Lw,Lo].Nodup
 new:∀b∈[Lp,Ln,Lw,Lo],H0 b=none
section
variable {H0 H H':Hp} {Lp Ln Lw Lo:Addr} {x:Sx} {pv:List V} {was nas:A3} {nds:List Nd}
theorem UI.keep {N:Addr} (u:UI H0 H Lp Ln Lw Lo x pv was nas nds) (s:ak H0 H') (kt:aY H H') (kb:∀b o,H b=some o->b≠N->H' b=some o) (n:N∉Lp::Ln::Lw::Lo::(was++nas)):UI H0 H' Lp Ln Lw Lo x pv was nas nds:=by
 have ne:∀b∈Lp::Ln::Lw::Lo::(was++nas),b≠N:=λb hb z=>n (z▸hb);have inn:∀b∈was++nas,b≠N:=λb hb=>ne b (by simp only[Qh];exact .inr (.inr (.inr (.inr hb))));refine⟨s,kb _ _ u.p (ne _ (by simp)),ac (λ_ _ h=>h.kt kt) u.pp,?_,kb _ _ u.w (ne _ (by simp)),?_,kb _ _ u.o (ne _ (by simp)),?_,u.ap,u.nd,u.nw,u.dl,u.new⟩
 ·obtain⟨kvs,h,r⟩:=u.n;exact⟨kvs,kb _ _ h (ne _ (by simp)),r⟩
 ·exact bw u.wp λb w hb h=>h.keep kt λvs e=>kb _ _ e (inn b (Q6 _ hb))
 exact bw u.op λb w hb h=>h.keep kt λvs e=>kb _ _ e (inn b (QF _ hb))
theorem UI.same (u:UI H0 H Lp Ln Lw Lo x pv was nas nds) (S:ak H H'):UI H0 H' Lp Ln Lw Lo x pv was nas nds:=by
 refine⟨u.s.trans S,S _ _ u.p,ac (λ_ _ h=>h.kt (ak.tups S)) u.pp,?_,S _ _ u.w,?_,S _ _ u.o,?_,u.ap,u.nd,u.nw,u.dl,u.new⟩
 ·obtain⟨kvs,h,r⟩:=u.n;exact⟨kvs,S _ _ h,r⟩
 ·exact ac (λb w h=>h.keep (ak.tups S) λvs e=>S _ _ e) u.wp
 exact ac (λb w h=>h.keep (ak.tups S) λvs e=>S _ _ e) u.op
theorem UI.more {p:Pl} {w:List Tu} {v:V} {wl:Addr} (u:UI H0 H Lp Ln Lw Lo x pv was nas nds) (kb:∀b o,H b=some o->b∉[Lp,Ln,Lw]->H' b=some o) (hp:H' Lp=some (.lst (pv++[v]))) (pa:PlA H' v p) (hn:o8 H' Ln (x.ps++[p])) (hw:H' Lw=some (.lst ((was++[wl]).map V.ref))) (wy:j0 H' wl w) (nw:H wl=none) :
  aY H H'/\UI H0 H' Lp Ln Lw Lo ⟨x.ps++[p],x.ws++[w]⟩ (pv++[v]) (was++[wl]) nas nds:=by
 obtain⟨kvs,en,_⟩:=id u.n;have dl:=u.dl;simp only[QN,Qh,QA,Xk,not_or]at dl
 have kt:aY H H':=vt (Os:=[Lp,Ln,Lw]) (λb hb ys e=>by
  simp only[Qh,QA,Xk]at hb;rcases hb with rfl|rfl|rfl
  ·rw[u.p]at e;cases e
  ·rw[en]at e;cases e
  rw[u.w]at e;cases e) kb
 have kb':∀b o,H b=some o->b∉[Lp,Ln,Lw,Lo]->H' b=some o:=λb o e n=>kb b o e λz=>n (by simp only[Qh,QA,Xk]at z ⊢;rcases z with z|z|z <;> simp[z]);refine⟨kt,λb o e=>kb b o (u.s _ _ e) λz=>?_,hp,aV (ac (λ_ _ h=>h.kt kt) u.pp) pa,hn,hw,aV (bw u.wp λb w hb h=>h.keep kt λvs e=>kb' _ _ e (u.ap b (Q6 _ hb))) wy,kb _ _ u.o (by simp only[Qh,QA,Xk,not_or];exact⟨λz=>dl.1.2.2 z.symm,λz=>dl.2.1.2 z.symm,λz=>dl.2.2.1 z.symm⟩),bw u.op λb w hb h=>h.keep kt λvs e=>kb' _ _ e (u.ap b (QF _ hb)),λb hb=>?_,u.nd,u.nw,u.dl,u.new⟩
 ·rw[u.new b (by simp only[Qh,QA,Xk]at z ⊢;rcases z with z|z|z <;> simp[z])]at e;cases e
 rw[List.append_assoc,Qw,Qw,QB]at hb;rcases hb with hb|rfl|hb
 ·exact u.ap b (Q6 _ hb)
 ·intro z;simp only[Qh,QA,Xk]at z;rcases z with rfl|rfl|rfl|rfl
  ·rw[u.p]at nw;cases nw
  ·rw[en]at nw;cases nw
  ·rw[u.w]at nw;cases nw
  rw[u.o]at nw;cases nw
 exact u.ap b (QF _ hb)
theorem UI.node {N:Addr} {nd:Nd} (u:UI H0 H Lp Ln Lw Lo x pv was nas nds) (at_:j4 H N nd) (n:N∉Lp::Ln::Lw::Lo::(was++nas)) (h0:H0 N=none):UI H0 (upd H Lo (.lst ((nas++[N]).map V.ref))) Lp Ln Lw Lo x pv was (nas++[N]) (nds++[nd]):=by
 obtain⟨kvs,en,r⟩:=id u.n;have dl:=u.dl;simp only[QN,Qh,QA,Xk,not_or]at dl;have kt:aY H (upd H Lo (.lst ((nas++[N]).map V.ref))):=bN u.o;have kb:∀b o,H b=some o->b≠Lo->upd H Lo (.lst ((nas++[N]).map V.ref)) b=some o:=λb o e z=>by rw[ah z];exact e
 simp only[Qh,not_or]at n;have inn:∀b∈was++nas,b≠Lo:=λb hb z=>u.ap b hb (by rw[z];simp);refine⟨λb o e=>kb b o (u.s _ _ e) λz=>?_,kb _ _ u.p dl.1.2.2,ac (λ_ _ h=>h.kt kt) u.pp,⟨kvs,kb _ _ en dl.2.1.2,r⟩,kb _ _ u.w dl.2.2.1,bw u.wp λb w hb h=>h.keep kt λvs e=>kb _ _ e (inn b (Q6 _ hb)),ag,aV (bw u.op λb w hb h=>h.keep kt λvs e=>kb _ _ e (inn b (QF _ hb))) (at_.keep kt λvs e=>kb _ _ e n.2.2.2.1),λb hb=>?_,?_,λb hb=>?_,u.dl,u.new⟩
 ·rw[z,u.new Lo (by simp)]at e;cases e
 ·rw[<-List.append_assoc,Qw,QB]at hb;rcases hb with hb|rfl
  ·exact u.ap b hb
  simp only[Qh,QA,Xk,not_or];exact⟨n.1,n.2.1,n.2.2.1,n.2.2.2.1⟩
 ·rw[XF];refine⟨u.nd,by simp,λa ha b hb=>?_⟩;rw[QB.mp hb];exact λz=>n.2.2.2.2 (QF _ (z▸ha))
 rcases Qw.mp hb with hb|hb
 ·exact u.nw b hb
 rw[QB.mp hb];exact h0
end
structure IV (H0 Hs H:Hp) (Lp Ln Lw Lo N q:Addr) (r:Rg) (x:Sx) (pv:List V) (was nas:A3) (nds:List Nd) (p:Pl) (way:List Tu) (sv ndv:List V) (nd:Nd):Prop where
 u:UI H0 H Lp Ln Lw Lo x pv was nas nds
 xo:x.Ok r
 kt:aY Hs H
 hq:H q=some (.lst sv)
 hN:H N=some (.lst ndv)
 pn:Paired (SgA H) ndv nd
 nN:N∉Lp::Ln::Lw::Lo::(was++nas)
 nq:q∉[Lp,Ln,Lw,N]
 gp:x.ps[nds.length]?=some p
 gw:x.ws[nds.length]?=some way
 N0:H0 N=none
section
variable {H0 Hs H H':Hp} {Lp Ln Lw Lo N q:Addr} {r:Rg} {x:Sx} {pv:List V} {was nas:A3} {nds:List Nd} {p:Pl} {way:List Tu} {sv ndv:List V} {nd:Nd}
theorem IV.same (i:IV H0 Hs H Lp Ln Lw Lo N q r x pv was nas nds p way sv ndv nd) (S:ak H H'):IV H0 Hs H' Lp Ln Lw Lo N q r x pv was nas nds p way sv ndv nd :=
 ⟨i.u.same S,i.xo,λb ys e=>S _ _ (i.kt b ys e),S _ _ i.hq,S _ _ i.hN,ac (λ_ _ h=>h.kt (ak.tups S)) i.pn,i.nN,i.nq,i.gp,i.gw,i.N0⟩
theorem IV.put {v:V} {e:Str × Nat} (i:IV H0 Hs H Lp Ln Lw Lo N q r x pv was nas nds p way sv ndv nd) (h:SgA H v e):IV H0 Hs (upd H N (.lst (ndv++[v]))) Lp Ln Lw Lo N q r x pv was nas nds p way sv (ndv++[v]) (nd++[e]):=by
 have kt:aY H (upd H N (.lst (ndv++[v]))):=bN i.hN;have kb:∀b o,H b=some o->b≠N->upd H N (.lst (ndv++[v])) b=some o:=λb o e z=>by rw[ah z];exact e
 have nq:=i.nq;simp only[Qh,QA,Xk,not_or]at nq;exact⟨i.u.keep (ca i.u.s i.N0) kt kb i.nN,i.xo,λb ys e=>kt _ _ (i.kt b ys e),kb _ _ i.hq nq.2.2.2,ag,aV (ac (λ_ _ h=>h.kt kt) i.pn) (h.kt kt),i.nN,i.nq,i.gp,i.gw,i.N0⟩
theorem IV.more {p':Pl} {w':List Tu} {v:V} {wl:Addr} (i:IV H0 Hs H Lp Ln Lw Lo N q r x pv was nas nds p way sv ndv nd) (xo:Sx.Ok r ⟨x.ps++[p'],x.ws++[w']⟩) (kb:∀b o,H b=some o->b∉[Lp,Ln,Lw]->H' b=some o) (hp:H' Lp=some (.lst (pv++[v]))) (pa:PlA H' v p') (hn:o8 H' Ln (x.ps++[p'])) (hw:H' Lw=some (.lst ((was++[wl]).map V.ref))) (wy:j0 H' wl w') (nw:H wl=none) :
  aY H H'/\IV H0 Hs H' Lp Ln Lw Lo N q r ⟨x.ps++[p'],x.ws++[w']⟩ (pv++[v]) (was++[wl]) nas nds p way sv ndv nd:=by
 obtain⟨kt,u'⟩:=i.u.more kb hp pa hn hw wy nw;have nq:=i.nq;have nN:=i.nN;simp only[Qh,Qw,QA,Xk,not_or]at nq nN;refine⟨kt,u',xo,λb ys e=>kt _ _ (i.kt b ys e),kb _ _ i.hq (by simp only[Qh,QA,Xk,not_or];exact⟨nq.1,nq.2.1,nq.2.2.1⟩),kb _ _ i.hN (by simp only[Qh,QA,Xk,not_or];exact⟨nN.1,nN.2.1,nN.2.2.1⟩),ac (λ_ _ h=>h.kt kt) i.pn,?_,i.nq,?_,?_,i.N0⟩
 ·simp only[Qh,Qw,QA,Xk,not_or];exact⟨nN.1,nN.2.1,nN.2.2.1,nN.2.2.2.1,⟨nN.2.2.2.2.1,(aC i.hN nw).symm⟩,nN.2.2.2.2.2⟩
 ·rw[QM (Qe.mp i.gp).1];exact i.gp
 rw[QM (Qe.mp i.gw).1];exact i.gw
end
section
theorem kr:FnScope ["ring_sheet", "places", "numbers", "ways", "nodes", "at", "node", "step", "word"] ["ring_sheet"] (ax (top 19)):=by fin2
theorem wo {f:Addr} {fd:FuncData} (Fu:Fun K "unfolded" "unfolded" (top 19) f fd) (T:Txt K mg TT) (f_first_marks:Fn P w K mg base "first_marks" ["arcs"] 2 nX) (f_steps_at:Fn P w K mg base "steps_at" ["ring_sheet", "place"] 4 nP) (f_odd_word:Fn P w K mg base "odd_word" ["ring_sheet", "place", "step"] 2 ve):FnOk P w K mg base CX0 5 f fd ["ring_sheet"] vb:=by
 have S:=kr;refine Fu.ok S (by room) (λcdv A outer s H vs Q E hr h=>?_);obtain⟨a,li,lo,l,as,r,rfl,at_,ok,k⟩:=h;have hu:=cL hr;obtain⟨_,gMN⟩:=T.mNODES;have ha:=at_.ha;obtain⟨ts,wt⟩:=wX r;refine'⟨?_,?bb,?_⟩
 case bb =>
  walk_at "b";refine' ay 1 S.nd ?e
  case e =>
   walk_at "q";exact(aP f_first_marks hr (aa (aq az (pv 0) af) ad se_sub));exact(aq az (pv 0) af)
  exact ay 2 S.nd (rF hu (aq aN (pv 1) af) af);refine' ay 3 S.nd ?e
  case e =>
   walk_at "q"
  exact ay 4 S.nd (pe_lst ad);refine' dZ PassesOwn.never ?_ ?_;rotate_left 2;exact(aD oz (aM aK (by rfl) T.n_len Xa (aa (pv 4) ad ae)) (aM aK (by rfl) T.n_len Xa (aa (pv 1) ad ae)) (aG _));walk_at "p";exact ay 5 S.nd (aM aK (by rfl) T.n_len Xa (aa (pv 4) ad ae));exact ay 6 S.nd (pe_lst ad);walk_at "f";exact(a_ (aP f_steps_at hr (aa (pv 0) (aa (aq aN (pv 1) (pv 5)) ad) ae)));exact(bv 7 S.nd);walk_at "p";exact ay 8 S.nd (aP f_odd_word hr (aa (pv 0) (aa (aq aN (pv 1) (pv 5)) (aa (pv 7) ad ae)) ae));exact(aD t5 (pv 8) rC rfl);refine' aU ?e
  case e =>
   walk_at "q";exact(aF dm (aq aN (pv 3) (pv 5)) (pe_lst (aa (aq az (pv 7) af) ad se_sub)));exact(pv 8)
  exact(rh (iQ hu (aq az (pv 7) af) (pv 2)));exact(aD dP (aM aK (by rfl) T.n_len Xa (aa (pv 1) ad ae)) (jA (v:=.int 40) (by rfl) gMN ⟨_,rfl⟩) (aG _));exact(aU (pe_tup (aa bc ad aL)));exact(db hu (pv 2) (aq az (pv 7) af) (aM aK (by rfl) T.n_len Xa (aa (pv 1) ad ae)) rfl);exact(bH (bE Qz QV QW bj (pv 1) (aa (aq az (pv 7) af) ad)));refine' bH (bE Qz QV QW bj (pv 3) ?a)
  case a =>
   walk_at "q";exact(aF dm (aq aN (pv 3) (pv 5)) (pe_lst (aa (aq az (pv 7) af) ad se_sub)))
  refine' bH (bE Qz QV QW bj (pv 6) ?a)
  case a =>
   walk_at "q";exact(aq az (aq az (pv 7) af) af);exact(de hu (pv 2) (aq az (pv 7) af))
  exact(bH (bE Qz QV QW bj (pv 4) (aa (pv 6) ad ae)));refine' aU ?e
  case e =>
   walk_at "q";exact(be dL (by rfl) T.n_list PyProof.Rows.boot_list (aa (aq az (pv 0) af) ad));exact(be dL (by rfl) T.n_list PyProof.Rows.boot_list (aa (aq az (pv 0) af) ad));exact(aq az (pv 0) af);exact(pv 4)
 x_go;lk;refine⟨l,as,r,rfl,at_.arcs,ok,λm0 H1 S1 hm0=>?_⟩;have ha1:=S1 _ _ ha;lk;refine⟨by simp[sizeLine],λp0 hp0=>?_⟩;generalize hE:upd H1 p0 _=H2;obtain⟨S2,q2⟩:=aj hp0 hE;lk;refine⟨by simp[sizeLine],λLp hLp=>?_⟩;generalize hE:upd H2 Lp _=H3;obtain⟨S3,q3⟩:=aj hLp hE;refine λLn hLn=>?_;generalize hE:upd H3 Ln _=H4;obtain⟨S4,q4⟩:=aj hLn hE;have q34:=S4 _ _ q3;lk;have ep:aY H2 H4:=ak.tups (S3.trans S4);have pl0:PlA H2 (.ref p0) (mks r.arcs,r.z):=⟨p0,m0,rfl,q2,S2 _ _ hm0⟩;refine⟨q4,p0,_,rfl,(pl0.kt ep).tk,?_⟩;generalize hE:upd H4 Ln _=H5;have q5:H5 Ln=some (.dT [(tkP (mks r.arcs,r.z),.int 0)]):=by rw[<-hE];exact ag
 have S5:ak H3 H5:=by rw[<-hE];exact ca S4 hLn
 lk;refine⟨by simp[sizeLine],λw0 hw0=>?_⟩;generalize hE:upd H5 w0 _=H6;obtain⟨S6,q6⟩:=aj hw0 hE;lk;refine⟨by simp[sizeLine],λLw hLw=>?_⟩;generalize hE:upd H6 Lw _=H7;obtain⟨S7,q7⟩:=aj hLw hE;lk;refine⟨by simp[sizeLine],λLo hLo=>?_⟩;generalize hE:upd H7 Lo _=H8;obtain⟨S8,q8⟩:=aj hLo hE
 have ui:UI H H8 Lp Ln Lw Lo (Sx.first r) [.ref p0] [w0] [] []:=by
  have S68:=(S6.trans S7).trans S8;have S38:=S5.trans S68;have n1:Ln≠Lp:=aC q3 hLn;have n2:Lw≠Lp:=aC (S6 _ _ (S5 _ _ q3)) hLw;have n3:Lo≠Lp:=aC (S7 _ _ (S6 _ _ (S5 _ _ q3))) hLo;have n4:Lw≠Ln:=aC (S6 _ _ q5) hLw;have n5:Lo≠Ln:=aC (S7 _ _ (S6 _ _ q5)) hLo;have n6:Lo≠Lw:=aC q7 hLo;refine⟨((S1.trans S2).trans S3).trans S38,S38 _ _ q3,.cons (pl0.kt (ak.tups (S3.trans S38))) .nil,um _ (S68 _ _ q5),S8 _ _ q7,.cons ⟨[],S8 _ _ (S7 _ _ q6),.nil⟩ .nil,q8,.nil,λb hb=>?_,.nil,(λb hb=>nomatch hb),?_,λb hb=>?_⟩
  ·rw[List.append_nil,QB]at hb;subst hb;simp only[Qh,QA,Xk,not_or];exact⟨aC (S5 _ _ q3) hw0,aC q5 hw0,(aC q6 hLw).symm,(aC (S7 _ _ q6) hLo).symm⟩
  ·simp only[QN,Qh,QA,Xk,not_or,not_false_iff,List.nodup_nil,and_true];exact⟨⟨n1.symm,n2.symm,n3.symm⟩,⟨n4.symm,n5.symm⟩,n6.symm⟩
  have S12:=S1.trans S2;have S13:=S12.trans S3;have S16:=S13.trans (S5.trans S6);simp only[Qh,QA,Xk]at hb;rcases hb with rfl|rfl|rfl|rfl
  ·exact bx S12 hLp
  ·exact bx S13 hLn
  ·exact bx S16 hLw
  exact bx (S16.trans S7) hLo
 refine aw (s_seq ?_);let I2:IvF:=λm U H'=>∃x pv was nas nds y5 y6 y7 y8,U=[some (.ref a),some (.ref Lp),some (.ref Ln),some (.ref Lw),some (.ref Lo),y5,y6,y7,y8]/\UI H H' Lp Ln Lw Lo x pv was nas nds/\x.Ok r/\nds.length<=x.ps.length/\m+nds.length=40/\K2.outer r ts (m+1) x nds=unf r ts;refine⟨I2,⟨40,_,_,_,_,_,none,none,none,none,rfl,ui,sR ok,QP _,rfl,rfl⟩,?_⟩;rintro m U H' ⟨x,pv,was,nas,nds,y5,y6,y7,y8,rfl,u,xo,hn,hm,hR⟩;have hLp':=u.p;have hLo':=u.o;have lp:=ao u.pp;have lo_:=ao u.op;have at':=at_.same u.s;lk;rw[Qd,lo_,lp];unfold K2.outer at hR;by_cases c:nds.length<x.ps.length
 ·refine ifT (Qx (by omega)) ?_;rw[Qt c]at hR;obtain⟨m1,rfl⟩:∃m1,m=m1+1:=⟨m-1,by have:=xo.2.2.1;omega⟩;refine⟨_,λσ' H2 h=>⟨m1,Nat.lt_succ_self _,h⟩,?_⟩;have gp:=Sx.p_mem c;have gw:=Sx.w_mem (x:=x) (i:=nds.length) (by rw[xo.1];exact c);generalize x.p nds.length=p at hR gp;generalize x.wy nds.length=way at hR gw;have po:=xo.2.2.2.1 p (Qk gp);obtain⟨vp,gvp,plp⟩:=a9 u.pp gp;lk;rw[Qd,lo_];refine⟨by simp[sizeLine],λN hN=>?_⟩;generalize hE:upd H' N _=G1;obtain⟨T1,qN⟩:=aj hN hE;have uN:=u.same T1;have hLp1:=uN.p;lk;refine bF (SqL.of hLp1) (bA gvp) ?_;refine bi ⟨a,li,lo,l,as,r,vp,p,rfl,at'.same T1,ok,plp.kt (ak.tups T1),po,λq sv ts' G2 T2 nq hq wt' psv=>?_⟩;obtain rfl:ts'=ts:=wt'.one wt λ_=>Iff.rfl;refine⟨q,rfl,⟨_,SqL.of hq⟩,?_⟩
  have iv:IV H G2 G2 Lp Ln Lw Lo N q r x pv was nas nds p way sv [] []:=by
   have u2:=uN.same T2;obtain⟨kvs,en,_⟩:=id uN.n;obtain⟨kvs',en',_⟩:=id u.n
   have was_at:∀b∈was++nas,∃o,H' b=some o:=λb hb=>by
    rcases Qw.mp hb with hb|hb
    ·obtain⟨i,hi,rfl⟩:=Q8 hb;obtain⟨y,_,vs,e,_⟩:=paired_get u.wp (Qc hi);exact⟨_,e⟩
    obtain⟨i,hi,rfl⟩:=Q8 hb;obtain⟨y,_,vs,e,_⟩:=paired_get u.op (Qc hi);exact⟨_,e⟩
   refine⟨u2,xo,λ_ _ e=>e,hq,T2 _ _ qN,.nil,?_,?_,gp,gw,bx u.s hN⟩
   ·simp only[Qh,not_or];refine⟨aC u.p hN,aC en' hN,aC u.w hN,aC u.o hN,λz=>?_⟩;obtain⟨o,e⟩:=was_at _ z;rw[e]at hN;cases hN
   simp only[Qh,QA,Xk,not_or];exact⟨aC uN.p nq,aC en nq,aC uN.w nq,aC qN nq⟩
  generalize eR:cK r p.2 way (bU r ts' p) x []=R at hR;let I3:IvF:=λi U H2=>∃x pv was ndv nd y7 y8,U=[some (.ref a),some (.ref Lp),some (.ref Ln),some (.ref Lw),some (.ref Lo),some (.int (nds.length:Nat)),some (.ref N),y7,y8]/\IV H G2 H2 Lp Ln Lw Lo N q r x pv was nas nds p way sv ndv nd/\cK r p.2 way ((bU r ts' p).drop i) x nd=R/\nd.length=i;refine cZ (xs:=sv) I3 ⟨x,pv,was,[],[],y7,y8,rfl,iv,by rw[List.drop_zero];exact eR,rfl⟩ (λi U H2 _ ⟨_,_,_,_,_,_,_,_,iv,_⟩=>SqL.of iv.hq) (λi v U H2 ev h=>?_) (λU H2 h=>?_)
  ·obtain⟨x,pv,was,ndv,nd,y7,y8,rfl,iv,hI,hnd⟩:=h;obtain⟨s,es,sa⟩:=paired_get psv ev;have sa:=sa.kt iv.kt;obtain⟨sb,v1,v2,rfl,hsb,tu,pl2⟩:=id sa;obtain⟨ta,rfl,hta⟩:=id tu;obtain⟨pb,mb,rfl,hpb,hmb⟩:=id pl2;obtain⟨vp,gvp,plp⟩:=a9 iv.u.pp iv.gp;obtain⟨t,mt,et⟩:=Qj.mp (Qk es);obtain⟨mt,may⟩:=QR.mp mt;have tok:=Wt.ok ok wt mt;have ssl:(bU r ts' p).length<=10:=by unfold bU;rw[Qd];exact QG (XA _ _) (Wt.few ok wt)
   have il:=(Qe.mp es).1;have ndl:=ao iv.pn;have big:1000<sizeLine:=by decide
   rw[List.drop_eq_getElem_cons il,(Qe.mp es).2]at hI;have hLp2:=iv.u.p;have at2:=at_.same iv.u.s;lk;refine bF (SqL.of hLp2) (bA gvp) ?_;lk;refine⟨a,li,lo,l,as,r,vp,.ref sb,p,s,rfl,at2,ok,plp,po,sa,by rw[<-et];exact tok,λG3 T3=>?_⟩;have iv3:=iv.same T3;have hsb3:=T3 _ _ hsb;have hta3:=T3 _ _ hta;lk;refine⟨rfl,_,rfl,?_⟩
   cases co:fj r p.2 s with
   | some wd =>
    refine ifT (by rw[Qv (λz=>by cases z)];rfl) ?_;have hLw3:=iv3.u.w;obtain⟨wl,gwl,wvs,hwl,wpr⟩:=a9 iv3.u.wp iv3.gw;have wl10:way.length<41:=by have:=iv3.xo.2.2.2.2 way (Qk iv3.gw);have:=iv3.xo.1;have:=iv3.xo.2.2.1;omega
    lk;refine bF (SqL.of hLw3) (bA (by rw[Qs,gwl];rfl)) ?_;lk;refine⟨by simp[sizeLine],λp1 h1=>?_⟩;generalize hE:upd G3 p1 _=G4;obtain⟨T4,q4⟩:=aj h1 hE;have wl2:=ao wpr;refine f9 (T4 _ _ hwl) q4 (by rw[QT];omega) λp2 h2=>?_;generalize hE:upd G4 p2 _=G5;obtain⟨T5,q5⟩:=aj h2 hE;lk;refine⟨by simp[sizeLine],λp3 h3=>?_⟩;generalize hE:upd G5 p3 _=G6;obtain⟨T6,q6⟩:=aj h3 hE;have TT:=(T4.trans T5).trans T6;refine k (.ref p3) ts' G6 (iv3.u.s.trans TT) wt ?_
    have eU:unf r ts'=.odd (way++[s.1]) wd:=by
     unfold cK at hI;rw[co]at hI;rw[<-hR,<-hI]
    rw[eU];exact⟨p3,p2,rfl,q6,bx (iv3.u.s.trans T4) h2,_,T6 _ _ q5,aV (ac (λ_ _ h=>h.kt (ak.tups TT)) wpr) (tu.kt (ak.tups (T3.trans TT)))⟩
   | none =>
   refine ifF rfl ?_;refine s_next ?_;unfold cK at hI;rw[co]at hI;dsimp only at hI;let I4:IvJ:=λU G=>∃x' pv' was',U=[some (.ref a),some (.ref Lp),some (.ref Ln),some (.ref Lw),some (.ref Lo),some (.int (nds.length:Nat)),some (.ref N),some (.ref sb),some .non]/\IV H G2 G Lp Ln Lw Lo N q r x' pv' was' nas nds p way sv ndv nd/\aY G3 G/\s.2∈x'.ps/\cK r p.2 way ((bU r ts' p).drop (i+1)) x' (nd++[(s.1.1,x'.ps.idxOf s.2)])=R;with_reducible refine dr I4 (λRR hJ=>?_) (λU G h=>?_)
   ·obtain⟨kvs,en,kl,kv⟩:=id iv3.u.n;have pl3:=pl2.kt (ak.tups T3);refine s_if (i_tB (lD ?_));lk;refine⟨Ln,_,rfl,cw.t en pl3.tk,_,rfl,?_⟩;rw[kv];by_cases c:s.2∈x.ps
    ·rw[Qt c]at hI ⊢;exact ifF rfl (s_next (hJ _ _ ⟨x,pv,was,rfl,iv3,λ_ _ e=>e,c,hI⟩))
    rw[Qr c]at hI ⊢;refine ifT rfl ?_;have hLp3:=iv3.u.p;have lp3:=ao iv3.u.pp;lk;rw[lp3];by_cases c40:x.ps.length=40
    ·rw[Qt c40]at hI;refine ifT (Qx (by rw[c40];rfl)) ?_;lk;refine⟨by simp[sizeLine],λp3 h3=>?_⟩;generalize hE:upd G3 p3 _=G6;obtain⟨T6,q6⟩:=aj h3 hE;refine k (.ref p3) ts' G6 (iv3.u.s.trans T6) wt ?_;have eU:unf r ts'=.many:=by rw[<-hR,<-hI]
     rw[eU];exact⟨p3,rfl,q6⟩
    rw[Qr c40]at hI;refine ifF (Qv (λz=>c40 (by have:=V.int.inj z;omega))) ?_;kt_k;kt_k;refine dX ?_;lk;rw[lp3];have l40:=iv3.xo.2.2.1;refine⟨Ln,_,rfl,fb.t en pl3.tk (by omega),?_⟩;generalize hE4:upd G3 Ln _=G4;have dl:=iv3.u.dl;simp only[QN,Qh,QA,Xk,not_or]at dl;obtain⟨wl,gwl,wvs,hwl,wpr⟩:=a9 iv3.u.wp iv3.gw;have apw:=iv3.u.ap wl (Q6 _ (Qk gwl));simp only[Qh,QA,Xk,not_or]at apw;have wl2:=ao wpr;have wl10:way.length<x.ws.length:=iv3.xo.2.2.2.2 way (Qk iv3.gw);have wsl:=iv3.xo.1;have k4:∀b o,G3 b=some o->b≠Ln->G4 b=some o:=λb o e z=>by rw[<-hE4,ah z];exact e
    have q4:G4 Ln=some (.dT (bh kvs (tkP s.2) (.int (x.ps.length:Nat)))):=by rw[<-hE4];exact ag
    have hLp4:=k4 _ _ hLp3 dl.1.1;have hsb4:=k4 _ _ hsb3 (λz=>by rw[z,en]at hsb3;cases hsb3);have hta4:=k4 _ _ hta3 (λz=>by rw[z,en]at hta3;cases hta3);lk;refine dQ hLp4 (by omega) ?_;generalize hE5:upd G4 Lp _=G5;have k5:∀b o,G4 b=some o->b≠Lp->G5 b=some o:=λb o e z=>by rw[<-hE5,ah z];exact e
    have q5:G5 Lp=some (.lst (pv++[.ref pb])):=by rw[<-hE5];exact ag
    have hLw5:=k5 _ _ (k4 _ _ iv3.u.w (λz=>dl.2.1.1 z.symm)) (λz=>dl.1.2.1 z.symm);have hwl5:=k5 _ _ (k4 _ _ hwl apw.2.1) apw.1;have hsb5:=k5 _ _ hsb4 (λz=>by rw[z,hLp4]at hsb4;cases hsb4);have hta5:=k5 _ _ hta4 (λz=>by rw[z,hLp4]at hta4;cases hta4);lk;refine bF (SqL.of hLw5) (bA (by rw[Qs,gwl];rfl)) ?_;lk;refine⟨by simp[sizeLine],λp1 h1=>?_⟩;generalize hE:upd G5 p1 _=G6;obtain⟨T6,q6⟩:=aj h1 hE;refine f9 (T6 _ _ hwl5) q6 (by rw[QT];omega) λp2 h2=>?_;generalize hE:upd G6 p2 _=G7;obtain⟨T7,q7⟩:=aj h2 hE;have hLw7:=T7 _ _ (T6 _ _ hLw5);have wal:=ao iv3.u.wp;refine bi (dQ hLw7 (by rw[Qd];omega) ?_);generalize hE8:upd G7 Lw _=G8;have k8:∀b o,G7 b=some o->b≠Lw->G8 b=some o:=λb o e z=>by rw[<-hE8,ah z];exact e
    have kb:∀b o,G3 b=some o->b∉[Lp,Ln,Lw]->G8 b=some o:=λb o e nb=>by
     simp only[Qh,QA,Xk,not_or]at nb;exact k8 _ _ (T7 _ _ (T6 _ _ (k5 _ _ (k4 _ _ e nb.2.1) nb.1))) nb.2.2
    have no2:2∉s.2.1:=λz=>by
     unfold fj at co;rw[Qt z]at co
     split at co <;> cases co
    have xo':Sx.Ok r ⟨x.ps++[s.2],x.ws++[way++[s.1]]⟩:=by
     refine⟨by rw[Qn,Qn,wsl];rfl,by rw[Qn,QT];omega,by rw[Qn,QT];omega,λp' hp'=>?_,λw' hw'=>?_⟩
     ·rcases Qw.mp hp' with h|h
      ·exact iv3.xo.2.2.2.1 p' h
      rw[QB.mp h,<-et];exact kg po tok may (by rw[et];exact no2)
     show _<(x.ws++[way++[s.1]]).length;rw[Qn,QT];rcases Qw.mp hw' with h|h
     ·have:=iv3.xo.2.2.2.2 w' h;omega
     rw[QB.mp h,Qn,QT];omega
    have kt3:aY G3 G8:=vt (Os:=[Lp,Ln,Lw]) (λb hb ys e=>by
     simp only[Qh,QA,Xk]at hb;rcases hb with rfl|rfl|rfl
     ·rw[hLp3]at e;cases e
     ·rw[en]at e;cases e
     rw[iv3.u.w]at e;cases e) kb
    have hp2:p2≠Lw:=aC (T6 _ _ hLw5) h2
    have hw2:G3 p2=none:=by
     cases e:G3 p2 with
     | none=>rfl
     | some o =>
     by_cases z1:p2=Lp
     ·rw[z1,T6 _ _ q5]at h2;cases h2
     by_cases z2:p2=Ln
     ·rw[z2,T6 _ _ (k5 _ _ q4 (λz=>dl.1.1 z.symm))]at h2;cases h2
     rw[T6 _ _ (k5 _ _ (k4 _ _ e z2) z1)]at h2;cases h2
    obtain⟨kt8,iv8⟩:=iv3.more (p':=s.2) (w':=way++[s.1]) (v:=.ref pb) (wl:=p2) (H':=G8) xo' kb (k8 _ _ (T7 _ _ (T6 _ _ q5)) dl.1.2.1) (pl3.kt kt3)
     ⟨_,k8 _ _ (T7 _ _ (T6 _ _ (k5 _ _ q4 (λz=>dl.1.1 z.symm)))) dl.2.1.1,QG (bC _ _ _) (by rw[Qn,QT];omega),ul c kv⟩
     (by rw[<-hE8,ag,Q3];rfl) ⟨_,k8 _ _ q7 hp2,aV (ac (λ_ _ h=>h.kt kt3) wpr) ((tu.kt (ak.tups T3)).kt kt3)⟩ hw2
    refine hJ _ _ ⟨_,_,_,rfl,iv8,kt8,QF _ (List.mem_singleton_self _),?_⟩;rw[show (x.ps++[s.2]).idxOf s.2=x.ps.length by rw[List.idxOf_append,Qr c];simp];exact hI
   obtain⟨x',pv',was',rfl,iv',kt',ms,hI'⟩:=h;obtain⟨kvs,en,kl,kv⟩:=id iv'.u.n;have hsb':=kt' _ _ hsb3;have hta':=kt' _ _ hta3;have hN':=iv'.hN;have pl':=(pl2.kt (ak.tups T3)).kt kt';lk;refine⟨Ln,_,rfl,by have z:=cw.t en pl'.tk;rw[kv,Qt ms]at z;exact z,?_⟩;lk;refine⟨by simp[sizeLine],λp5 h5=>?_⟩;generalize hE:upd G p5 _=G6;obtain⟨T6,q6⟩:=aj h5 hE;have iv6:=iv'.same T6;refine bi (dQ iv6.hN (by omega) ?_);exact⟨x',pv',was',_,_,_,_,rfl,iv6.put ⟨p5,rfl,q6⟩,hI',by rw[Qn,hnd];rfl⟩
  obtain⟨x,pv,was,ndv,nd,y7,y8,rfl,iv,hI,hnd⟩:=h;rw[List.drop_of_length_le (Nat.le_of_eq (ao psv).symm)]at hI;unfold cK at hI;rw[<-hI]at hR;have hLo2:=iv.u.o;have gl:=(Qe.mp iv.gp).1;have big:1000<sizeLine:=by decide
  have l40:=iv.xo.2.2.1;lk;refine dQ hLo2 (by rw[Qd,lo_];omega) ?_;have un:=iv.u.node ⟨ndv,iv.hN,iv.pn⟩ iv.nN iv.N0;rw[Q3]at un;exact⟨x,pv,was,nas++[N],nds++[nd],_,_,_,_,rfl,un,iv.xo,by rw[Qn,QT];exact gl,by rw[Qn,QT];omega,hR⟩
 refine ifF (Qv (by omega)) ?_;rw[Qr c]at hR;have ha':=at'.ha;have hi':=at'.hi;lk;refine λli2 h2=>?_;generalize hE:upd H' li2 _=H9;obtain⟨S9,q9⟩:=aj h2 hE;have ha9:=S9 _ _ ha';have ho9:=S9 _ _ at'.ho;lk;refine λlo2 h3=>?_;generalize hE:upd H9 lo2 _=Ha;obtain⟨Sa,qa⟩:=aj h3 hE;have haa:=Sa _ _ ha9;lk;refine⟨by simp[sizeLine],λs2 h4=>?_⟩;generalize hE:upd Ha s2 _=Hb;obtain⟨Sb,qb⟩:=aj h4 hE;lk;refine⟨by simp[sizeLine],λa2 h5=>?_⟩;generalize hE:upd Hb a2 _=Hc;obtain⟨Sc,qc⟩:=aj h5 hE;have Sall:ak H' Hc:=((S9.trans Sa).trans Sb).trans Sc;refine k (.ref a2) ts Hc (u.s.trans Sall) wt ?_;rw[<-hR];have uc:=u.same Sall;have e1:li2≠Lo:=λz=>by rw[z,hLo']at h2;cases h2
 have e2:lo2≠li2:=λz=>by rw[z,q9]at h3;cases h3
 have e3:lo2≠Lo:=λz=>by rw[z,S9 _ _ hLo']at h3;cases h3
 have nas_at:∀b∈nas,∃o,H' b=some o:=λb hb=>by
  obtain⟨i,hi,rfl⟩:=Q8 hb;obtain⟨y,_,vs,e,_⟩:=paired_get u.op (Qc hi);exact⟨_,e⟩
 have e4:li2∉nas:=λz=>by obtain⟨o,e⟩:=nas_at _ z;rw[e]at h2;cases h2
 have e5:lo2∉nas:=λz=>by obtain⟨o,e⟩:=nas_at _ z;rw[S9 _ _ e]at h3;cases h3
 have e6:Lo∉nas:=λz=>u.ap _ (QF _ z) (by simp);refine⟨a2,s2,li2,lo2,Lo,nas,rfl,qc,Sc _ _ qb,Sc _ _ (Sb _ _ (Sa _ _ q9)),Sc _ _ (Sb _ _ qa),uc.o,uc.op,?_,?_⟩
 ·simp only[QN,Qh,not_or];exact⟨⟨e2.symm,e1,e4⟩,⟨e3,e5⟩,e6,u.nd⟩
 intro b hb;simp only[Qh]at hb;rcases hb with rfl|rfl|rfl|hb
 ·exact bx u.s h2
 ·exact bx (u.s.trans S9) h3
 ·exact u.new _ (by simp)
 exact u.nw b hb
end
def qP (K:PySem.W.Frag):Sp:=λvs H Q _=>∃(s:Addr) (ns:List Int) (k:Nat),vs=[.ref s,.int (k:Int)]/\SqL K H s (ns.map V.int)/\k<=100/\∀(D:Dk) H',D.n=3700->ak H H'->H D.d=none->D.At H'->Q (.ref D.d) H'
theorem uq {x y:Int} (x0:0<=x) (x1:x<9999999607) (y0:0<=y) (y1:y<=100000):0<=(x+991)*(29*y+59)+3517*y*y/\(x+991)*(29*y+59)+3517*y*y<1000000000000000000:=by
 have a0:0<=(x+991)*(29*y+59):=Int.mul_nonneg (by omega) (by omega);have a1:(x+991)*(29*y+59)<=10000000598*2900059:=Int.mul_le_mul (by omega) (by omega) (by omega) (by omega);have b0:0<=3517*y*y:=Int.mul_nonneg (by omega) y0;have b1:3517*y*y<=351700000*100000:=Int.mul_le_mul (by omega) y1 y0 (by omega);omega
section
theorem kI:FnScope ["script", "k", "cell"] ["script", "k"] (ax (top 21)):=by fin2
theorem ud {f:Addr} {fd:FuncData} (Fu:Fun K "_law_pool" "_law_pool" (top 21) f fd) (T:Txt K mg TT):FnOk P w K mg base CX0 1 f fd ["script", "k"] (qP K):=by
 have S:=kI;refine Fu.ok S (by room) (λcdv A outer s H vs Q E hr h=>?_);obtain⟨s,ns,k,rfl,hS,k100,q⟩:=h
 refine⟨_,(pss_cons (rj (i:=2) S.nd rfl (by z_go) af)
  (pss_cons (ps_if (aD oz (pv 1) (aM aK (by rfl) T.n_len Xa (aa (pv 0) ad ae)) (aG _)) (pss_one (ay 2 S.nd (aq aN (pv 0) (pv 1)))) pss_nil)
  (pss_cons (ps_if (aD xy (pv 2) (aF rL af af) (aG _)) (pss_one (aU (pe_lst (aa (aF fO (pv 2) (aF rL af af)) (aa af (aa af ad aL) aL))))) pss_nil)
  (pss_one (aU (pe_lst (aa (pv 2) (aa af (aa (aF d7 af (pv 1)) ad) aL) ae))))))),?_⟩
 x_go;lk;refine⟨_,_,rfl,Or.inl hS,?_⟩;lk;rw[Qd]
 have J:∀(a b:Int) p,0<=b->b<=3700->H p=none->∀x,upd H p (.lst [.int a,.int x,.int b])=upd H p (.lst [.int a,.int x,.int b])->Q (.ref p) (upd H p (.lst [.int a,.int x,.int b])):=λa b p b0 b1 hp x _ =>
  q ⟨p,3700⟩ _ rfl (aA hp) hp ⟨_,_,_,ag,b0,b1⟩
 by_cases c:k<ns.length
 ·refine ifT (Qx (by omega)) ?_;lk;refine bF (v:=.int ns[k]) hS (bA (by rw[Qs,Qc c];rfl)) ?_;lk
  first|refine i_rI ⟨by decide,by decide,by decide⟩ ?_|skip
  lk;refine lA (λ_=>?_) (λ_=>?_)
  ·lk
   first|refine i_rI ⟨by decide,by decide,by decide⟩ ?_|skip
   lk;refine⟨by simp[sizeLine],λp hp=>?_⟩;exact J _ _ p (by omega) (by omega) hp _ rfl
  lk;refine⟨by simp[sizeLine],λp hp=>?_⟩;exact J _ _ p (by omega) (by omega) hp _ rfl
 refine ifF (Qv (by omega)) ?_;lk
 first|refine i_rI ⟨by decide,by decide,by decide⟩ ?_|skip
 lk;refine lA (λ_=>?_) (λ_=>?_)
 ·lk
  first|refine i_rI ⟨by decide,by decide,by decide⟩ ?_|skip
  lk;refine⟨by simp[sizeLine],λp hp=>?_⟩;exact J _ _ p (by omega) (by omega) hp _ rfl
 lk;refine⟨by simp[sizeLine],λp hp=>?_⟩;exact J _ _ p (by omega) (by omega) hp _ rfl
theorem kG:FnScope ["pool", "many", "found", "step", "mark"] ["pool", "many"] (ax (top 22)):=by fin2
theorem t_ {f:Addr} {fd:FuncData} (Fu:Fun K "_law_take" "_law_take" (top 22) f fd) (T:Txt K mg TT):FnOk P w K mg base CX0 1 f fd ["pool", "many"] dU:=by
 have S:=kG;refine Fu.ok S (by room) (λcdv A outer s H vs Q E hr h=>?_);obtain⟨D,m,rfl,DA,n1,h1,h2,k⟩:=h
 refine⟨_,(pss_cons (ps_if (aD dP (aq aN (pv 0) af) af (aG _)) (pss_cons (ay 2 S.nd (aF fQ (aq aN (pv 0) af) (pv 1)))
  (pss_cons (jz (aF oA (aq aN (pv 0) af) (pv 1)) (rq (pv 0) af ko))
  (pss_one (aU (pv 2))))) pss_nil)
  (pss_cons (jz (aF bV (aq aN (pv 0) af) af) (rq (pv 0) af ko))
  (pss_cons (ay 3 S.nd (aq aN (pv 0) af))
  (pss_cons (ay 4 S.nd (aF d7 (aF bV (aF fQ (aq aN (pv 0) af) af) af) (aF bV (aF d7 af (pv 3)) af)))
  (pss_cons (ay 4 S.nd (aF bV (pv 4) (aF d7 (aF d7 af (pv 3)) (pv 3))))
  (pss_cons (ay 4 S.nd (aF fQ (aF d7 (pv 4) (pv 4)) af))
  (pss_one (aU (aF fQ (aF oA (aF fQ (aF d7 (pv 4) (aF bV (pv 4) af)) af) af) (pv 1)))))))))),?_⟩
 x_go;obtain⟨a,b,c,hd,c0,c1⟩:=id DA;lk;refine lA (λ_=>?_) (λ_=>?_)
 ·lk
  first|refine i_rI (show (0:Int)<m by omega) ?_|skip
  lk
  first|refine i_rI ⟨by omega,by omega⟩ ?_|skip
  lk;exact k _ _ (Int.emod_nonneg _ (by omega)) (Int.emod_lt_of_pos _ (by omega)) ((vv (D:=D) c0 c1).le (QI _ _))
 lk;have hd2:upd H D.d (HO.lst ([V.int a,V.int b,V.int c].set (Int.toNat 2) (V.int (c+1)))) D.d=some (.lst [.int a,.int b,.int (c+1)]):=ag;have kp:Kp (D.more 1) H (upd H D.d (HO.lst ([V.int a,V.int b,V.int c].set (Int.toNat 2) (V.int (c+1))))):=vv (D:=D.more 1) (by omega) (by show c+1<=((D.n+1:Nat):Int);omega);generalize upd H D.d (HO.lst ([V.int a,V.int b,V.int c].set (Int.toNat 2) (V.int (c+1))))=H1 at *;lk;obtain⟨M0,M1⟩:=uq (x:=a % 9999999607) (y:=c+1) (Int.emod_nonneg _ (by decide)) (Int.emod_lt_of_pos _ (by decide)) (by omega) (by omega);generalize (a % 9999999607+991)*(29*(c+1)+59)+3517*(c+1)*(c+1)=M at *;refine i_rI (.inl ⟨by omega,by omega⟩) ?_;lk;have N0:=Int.emod_nonneg (M*M) (show (99999999647:Int)≠0 by decide);have N1:=Int.emod_lt_of_pos (M*M) (show (0:Int)<99999999647 by decide);generalize M*M % 99999999647=N at *
 first|refine i_rI (.inl ⟨by omega,by omega⟩) ?_|skip
 lk
 first|refine i_rI (show (0:Int)<m by omega) ?_|skip
 exact k _ _ (Int.emod_nonneg _ (by omega)) (Int.emod_lt_of_pos _ (by omega)) kp
end
theorem dF {T:List Nat}:∀(zs:List Str),(∀z∈zs,∃c∈T,z=⟨#[c]⟩)->((zs.map (·.cps.toList)).flatten).length=zs.length/\(∀c∈(zs.map (·.cps.toList)).flatten,c∈T)/\(zs.map (·.length)).sum=zs.length
 | [],_=>⟨rfl,λc h=>(QA h).elim,rfl⟩
 | z::zs,h=>by
  obtain⟨c,hc,rfl⟩:=h z (by simp);obtain⟨e1,e2,e3⟩:=dF zs λz hz=>h z (Qo _ hz);refine⟨?_,λd hd=>?_,?_⟩
  ·simp only[Qu,List.flatten_cons,Qn,e1,Xp];show (#[c]:Array Nat).toList.length+zs.length=_;simp;omega
  ·simp only[Qu,List.flatten_cons,Qw]at hd;rcases hd with hd|hd
   ·have:d=c:=by simpa using hd
    rw[this];exact hc
   exact e2 d hd
  simp only[Qu,List.sum_cons,Xp,e3];show (#[c]:Array Nat).size+zs.length=_;simp;omega
variable {zs ns:List Str}
theorem pV {T:List Nat} (h:∀z∈zs,∃c∈T,z=⟨#[c]⟩):(Txt.join Str.empty zs).cps.size=zs.length/\∀c∈(Txt.join Str.empty zs).cps.toList,c∈T:=by
 obtain⟨e1,e2,_⟩:=dF zs h;rw[<-Ql,pY];exact⟨e1,e2⟩
theorem uT {t:Str} {r:Int} (h0:0<=r) (h1:r<t.cps.size):∃c,atI t.cps.toList r=some c/\c∈t.cps.toList:=by
 have hr:r.toNat<t.cps.toList.length:=by rw[Ql];omega
 refine⟨t.cps.toList[r.toNat],?_,Xb hr⟩;have e:r=((r.toNat:Nat):Int):=by omega
 have q:=bA (xs:=t.cps.toList) (j:=r.toNat) (v:=t.cps.toList[r.toNat]) (Qc hr);rw[<-e]at q;exact q
def Lt:Str := "abcdefghijklmnopqrstuvwxyz"
def Xn (t:Nat):Str:=Txt.mul ⟨#[Lt.cps.getD t 0]⟩ 8
theorem wU:∀i,i<26->∀j,j<26->Xn i=Xn j->i=j:=by decide +kernel
theorem wT:∀t,t<26->(Xn t).length=8:=by decide +kernel
theorem xN (c:Nat):MulOk ⟨#[c]⟩ 8:=by
 refine⟨by decide,λ_ _=>?_,λ_ _=>?_⟩
 ·show ¬((1:Int)>(2 ^ 63-1) / 8)
  decide
 rfl
theorem pigeon:∀(xs ys:List Str),xs.Nodup->(∀x∈xs,x∈ys)->xs.length<=ys.length
 | [],ys,_,_=>QP _
 | x::xs,ys,nd,h=>by
  rw[QN]at nd;have hx:=h x (by simp);have:=pigeon xs (ys.erase x) nd.2 λy hy=>(List.mem_erase_of_ne (λz:y=x=>nd.1 (by rw[<-z];exact hy))).mpr (h y (Qo _ hy));rw[XO hx]at this;have:0<ys.length:=List.length_pos_of_mem hx;rw[Xp];omega
theorem lW:∀t,t<=26->((List.range t).map Xn).Nodup
 | 0,_=>by simp
 | t+1,h=>by
  rw[List.range_succ,Q3,XF];refine⟨lW t (by omega),by simp,λa ha b hb e=>?_⟩;obtain⟨i,hi,rfl⟩:=Qj.mp ha;rw[Xm]at hi;have:b=Xn t:=by simpa using hb
  subst this;have:=wU i (by omega) t (by omega) e;omega
theorem yc {t:Nat} (ht:t<=26) (h:∀j,j<t->Xn j∈ns):t<=ns.length:=by
 have:=pigeon ((List.range t).map Xn) ns (lW t ht) λx hx=>by
  obtain⟨j,hj,rfl⟩:=Qj.mp hx;exact h j (Xm.mp hj)
 simpa using this
structure NmOk (b:Nat) (z:Str):Prop where
 pos:1<=z.length
 lt:z.length<b
def Bd (k:Nat):Nat:=9*2 ^ k
theorem o_ (k:Nat):Bd (k+1)=2*Bd k:=by unfold Bd;rw[Nat.pow_succ];omega
theorem vJ:∀k,9<=Bd k
 | 0=>by decide
 | k+1=>by rw[o_];have:=vJ k;omega
theorem ym:∀k,k<=11->Bd k<=20000:=by decide
theorem uS (h:ns≠[]):∃n∈ns,atI (ns.map V.str) (-1)=some (.str n):=by
 have hl:0<ns.length:=List.length_pos_iff.mpr h;refine⟨ns[ns.length-1],Xb _,?_⟩
 have e:ixN (ns.map V.str).length (-1)=some (ns.length-1):=by
  unfold ixN;rw[Qd,Qr (by decide),Qt (by omega)];congr 1;omega
 unfold atI;rw[e];show (ns.map V.str)[ns.length-1]?=_;rw[Qs,Qc (by omega)];rfl
theorem uR {ws:List Str} {r:Int} (h0:0<=r) (h1:r<ws.length):∃n∈ws,atI (ws.map V.str) r=some (.str n):=by
 have hr:r.toNat<ws.length:=by omega
 refine⟨ws[r.toNat],Xb hr,?_⟩;have e:r=((r.toNat:Nat):Int):=by omega
 have q:=bA (xs:=ws.map V.str) (j:=r.toNat) (v:=.str ws[r.toNat]) (by rw[Qs,Qc hr];rfl);rw[<-e]at q;exact q
theorem jN {nm:Str}:∀{ns:List Str},inV (.str nm) (ns.map V.str)=true↔nm∈ns
 | []=>by simp[inV]
 | x::ns=>by
  have ih:=jN (nm:=nm) (ns:=ns);unfold inV at ih ⊢;rw[Qu,List.any_cons,Bool.or_eq_true,ih,Qh]
  have:eqV (.str x) (.str nm)=true↔nm=x:=by
   show decide (x=nm)=true↔_;rw[decide_eq_true_iff];exact⟨λh=>h.symm,λh=>h.symm⟩
  rw[this]
theorem pZ (ns:List Str):(ns.map V.str).all cu=true:=by
 rw[Q7];intro x hx;obtain⟨y,_,rfl⟩:=Qj.mp hx;rfl
theorem lap (a b:Str):(a++b).length=a.length+b.length:=by show (a.cps++b.cps).size=_;rw[Array.size_append];rfl
def kh:Sp:=λvs H Q _=>∃(D:Dk) (m:Nat),vs=[.ref D.d,.int (m:Int)]/\D.At H/\D.n<50000/\1<=m/\m<=11 /\
 ∀l (nm:List Str) H',Kp (D.more 200) H H'->H l=none->nm.length=m->nm.Nodup->H' l=some (.lst (nm.map V.str))->Q (.ref l) H'
variable {D D':Dk}
theorem Kp.up {c':Nat} (a:Kp (D.more c) H H1) (l:c<=c'):Kp (D.more c') H H1:=a.le (Nat.add_le_add_left l _)
theorem Kp.one (a:Kp (D.more c) H H1) (b:Kp ((D.more c).more 1) H1 H2):Kp (D.more (c+1)) H H2:=(a.trans b).le (Nat.le_of_eq (Nat.add_assoc _ _ _))
theorem bt {c:Nat} {m:Int} {E:XK} (kp:Kp (D.more c) H0 H) (dn:D.n+c<100000) (h1:1<=m) (h2:m<=100000)
  (q:∀(r:Int) H',0<=r->r<m->(∀b o,H b=some o->¬D.own b->H' b=some o)->Kp (D.more (c+1)) H0 H'->Q (.int r) H'):dU [.ref D.d,.int m] H Q E :=
 ⟨D.more c,m,rfl,kp.dk,dn,h1,h2,λr H' r0 r1 k=>q r H' r0 r1 k.old (kp.one k)⟩
theorem nv {r:Int} (h0:0<=r) (h1:r<26):∃c∈Lt.cps.toList,atI Lt.cps.toList r=some c:=by
 have z26:((Lt.cps.size:Nat):Int)=26:=by decide +kernel
 obtain⟨c,e,hc⟩:=uT (t:=Lt) (r:=r) h0 (by rw[z26];exact h1);exact⟨c,hc,e⟩
def NJp (D:Dk) (m:Nat) (l:Addr) (stem:Str) (H:Hp) (i:Nat) (ns:List Str) (c:Nat):St->Hp->Prop:=λU H'=>∃(way:Int) (nm:Str) (x8 x9:Option V),U=[some (.ref D.d),some (.int (m:Int)),some (.str Lt),some (.str stem),some (.ref l),some (.int (0+i)),some (.str nm),some (.int way),x8,x9]/\NmOk (Bd (i+1)) nm/\H' l=some (.lst (ns.map V.str))/\Kp (D.more c) H H'
local macro_rules|`(tactic|ctx_has $a $b $c $d $e $f $g)=>`(tactic|(generalize hE:upd $a $b _=$c;obtain⟨$d,$e⟩:=$f $g hE;clear hE))
section
theorem ju:FnScope ["pool", "many", "letters", "stem", "found", "k", "name", "way", "at", "turn"] ["pool", "many"] (ax (top 23)):=by fin2
theorem pH {f:Addr} {fd:FuncData} (Fu:Fun K "_law_names" "_law_names" (top 23) f fd) (T:Txt K mg TT) (f_law_take:Fn P w K mg base "_law_take" ["pool", "many"] 1 dU):FnOk P w K mg base CX0 2 f fd ["pool", "many"] kh:=by
 have S:=ju;refine Fu.ok S (by room) (λcdv A outer s H vs Q E hr h=>?_);obtain⟨D,m,rfl,DA,dn,m1,m11,k⟩:=h;refine'⟨?_,?bb,?_⟩
 case bb =>
  walk_at "b";exact ay 2 S.nd bc;exact ay 3 S.nd (aq aN (pe_lst (aa bc (aa bc (aa bc (aa bc ad aL) aL) aL) aL)) (aP f_law_take hr (aa (pv 0) (aa af ad aL) ae)));exact ay 4 S.nd (pe_lst ad);walk_at "f";exact(cB (by rfl) T.n_range (aa (pv 1) ad ae));exact(bv 5 S.nd);walk_at "p";exact ay 6 S.nd (aF bM (cg eX (pv 3) cO (cN (aP f_law_take hr (aa (pv 0) (aa af ad aL) ae)))) (aq dH (pv 2) (aP f_law_take hr (aa (pv 0) (aa af ad aL) ae))));exact ay 7 S.nd (aP f_law_take hr (aa (pv 0) (aa af ad aL) ae));exact(aD dP (pv 7) af (aG _));exact ay 6 S.nd (bE PySem.F.plainAttrs_str PySem.F.slot_str_join PySem.F.type_str_join uo bc (aa (eM "turn" [("letters", 2),("pool", 0)] (cB (by rfl) T.n_range (aa (aF bV af (aP f_law_take hr (aa (pv 0) (aa af ad aL) ae))) ad)) (λ_ _ _ _=>(aq dH (pv 1) (aP f_law_take hr (aa (pv 2) (aa af ad aL) ae))))) ad));exact(PW.pt (rf (aD dP (pv 7) af (aG _)) (on (aD (fP hr.units) (pv 4) (pe_lst ad) (aG _)))));exact ay 8 S.nd (aP f_law_take hr (aa (pv 0) (aa (aM jU (by rfl) T.n_len Xa (aa (aq aN (pv 4) (rB l8 af)) ad)) ad aZ) ae));exact ay 6 S.nd (aF bM (aF bM (cg eX (aq aN (pv 4) (rB l8 af)) cO (cN (pv 8))) (aq dH (pv 2) (aP f_law_take hr (aa (pv 0) (aa af ad aL) ae)))) (cg eX (aq aN (pv 4) (rB l8 af)) (cN (aF bV (pv 8) af)) cO));exact ay 9 S.nd af;refine' dZ PassesOwn.never ?_ ?_;rotate_left 2;exact(aD iR (pv 6) (pv 4) rfl);walk_at "p";exact ay 6 S.nd (aF mE (aq dH (pv 2) (pv 9)) af);exact ay 9 S.nd (aF bV (pv 9) af);exact(bH (bE Qz QV QW bj (pv 4) (aa (pv 6) ad ae)));exact(aU (pv 4))
 x_go;lk;refine⟨by decide +kernel,λp hp=>?_⟩;ctx_has H p H1 S1 q1 aj hp;have q1':H1 p=some (.lst ((["abcdefg", "placeof", "zyxwvut", "kjqrshn"]:List Str).map V.str)):=q1;have kp1:Kp (D.more 0) H H1:=Kp.of DA S1;lk;refine bt kp1 (by omega) (by decide) (by decide) λr H2 r0 r1 o2 kp2=>?_;have np:¬D.own p:=aJ DA hp;have q2:=o2 _ _ q1' np;obtain⟨stem,hst,est⟩:=uR (ws:=["abcdefg", "placeof", "zyxwvut", "kjqrshn"]) (r:=r) r0 r1;have hstl:stem.length=7:=(by decide +kernel:∀z∈(["abcdefg", "placeof", "zyxwvut", "kjqrshn"]:List Str),z.length=7) stem hst;refine bF (SqL.of q2) est ?_;clear q2 q1 q1' S1 kp1;lk;refine⟨by decide,λl hl=>?_⟩;have nl:¬D.own l:=aJ (D:=D.more 1) kp2.dk hl;have HL:H l=none:=kp2.free hl;ctx_has H2 l H3 S3 q3 aj hl;have q3':H3 l=some (.lst (([]:List Str).map V.str)):=q3;have kp3:Kp (D.more 1) H H3:=kp2.trans (Kp.of kp2.dk S3);clear q3 S3 hl;lk;refine⟨by omega,by omega,?_⟩;rw[QX];let I5:IvF:=λi U H'=>∃x5 x6 x7 x8 x9,∃ns:List Str,U=[some (.ref D.d),some (.int (m:Int)),some (.str Lt),some (.str stem),some (.ref l),x5,x6,x7,x8,x9]/\i<=11/\ns.length=i/\ns.Nodup/\(∀n∈ns,NmOk (Bd i) n)/\H' l=some (.lst (ns.map V.str))/\Kp (D.more (1+14*i)) H H'
 refine dw (n:=m) I5
  ⟨_,_,_,_,_,[],rfl,QP _,rfl,List.nodup_nil,(λn h=>nomatch h),q3',kp3⟩ (λi U H' hi pv=>?_) (λU H' pv=>?_)
 ·obtain⟨x5,x6,x7,x8,x9,ns,rfl,_,hn,nd,good,hl',kp⟩:=pv;have bge:=vJ i;have ble:=ym i (by omega);have bsu:=o_ i;have l1:∀c,(⟨#[c]⟩:Str).length=1:=λ_=>rfl;refine aw ?_;lk;refine bt kp (by omega) (by decide) (by decide) λr2 Ha r20 r21 oa kpa=>?_;lk;have sl:=Txt.slice_le stem none (some r2);refine gX (by omega) ?_;lk;refine bt kpa (by omega) (by decide) (by decide) λr3 Hb r30 r31 ob kpb=>?_;obtain⟨c,hc,ec⟩:=nv r30 r31;refine fD (by decide +kernel) ec ?_;refine⟨_,_,rfl,rfl,by rw[l1];omega,?_⟩;have hnm:NmOk (Bd (i+1)) (Txt.slice stem none (some r2)++⟨#[c]⟩):=⟨by rw[lap,l1];omega,by rw[lap,l1];omega⟩;generalize Txt.slice stem none (some r2)++⟨#[c]⟩=nm at *;have hlb:=ob _ _ (oa _ _ hl' nl) nl;clear oa ob kpa sl r20 r21;refine aw ?_;lk;refine bt kpb (by omega) (by decide) (by decide) λway Hc w0 w1 oc kpc=>?_;have hlc:=oc _ _ hlb nl;clear oc kpb hlb;refine aw ?_;with_reducible refine dr (NJp D m l stem H i ns (1+14*i+12)) (λR hR=>?_) (λσ6 H6 j6=>?_)
  ·lk;refine lA (λ_=>?_) (λ_=>hR _ _ ⟨way,nm,x8,x9,rfl,hnm,hlc,kpc.up (by omega)⟩);lk;refine⟨rfl,?_⟩;lk;refine bS ?_;lk;refine bt kpc (by omega) (by decide) (by decide) λr4 Hd r40 r41 od kpd=>?_;have hld:=od _ _ hlc nl;lk;refine⟨by omega,by omega,λL hL=>?_⟩;have nL:¬D.own L:=aJ (D:=D.more _) kpd.dk hL;have HLn:H L=none:=kpd.free hL;obtain⟨n8,e8,a8,b8⟩:∃n8:Nat,(1+r4).toNat=n8/\1<=n8/\n8<=8:=⟨_,rfl,by omega,by omega⟩;rw[e8];have nlL:l≠L:=am hld hL;let I6:IvC:=λn H' ys=>Kp (D.more (1+14*i+4+n)) H H'/\H' L=some (.lst ys)/\H' l=some (.lst (ns.map V.str))/\∃zs:List Str,ys=zs.map V.str/\zs.length=n/\∀z∈zs,∃c∈Lt.cps.toList,z=⟨#[c]⟩
   refine hX (n:=n8) I6
    ⟨(Kp.new kpd hL).up (by omega),ag,by rw[ah nlL];exact hld,[],rfl,rfl,λz h=>nomatch h⟩ (λn H' ys pv=>pv.2.1) (λn H' ys hn8 pv=>?_) (λH' ys pv=>?_)
   ·obtain⟨kpx,hLx,hlx,zs,rfl,hz,hzs⟩:=pv;refine aw ⟨⟨rfl,rfl,trivial⟩,i_yes (iteT ?_)⟩;show tOp _ _ _ [some (.int (0+n)),some (.str Lt),some (.ref D.d)] _ _;lk;refine bt kpx (by omega) (by decide) (by decide) λr5 Hy r50 r51 oy kpy=>?_;obtain⟨c5,hc5,ec5⟩:=nv r50 r51;refine fD (by decide +kernel) ec5 ?_;refine lX.mk (oy _ _ hLx nL) hn8 (by rw[Qd];omega) ⟨Kp.fresh (DA.le (QI _ _)) HLn (kpy.up (by omega)),ag,by rw[ah nlL];exact oy _ _ hlx nl,zs++[⟨#[c5]⟩],by simp,by simp[hz],λz hz'=>?_⟩;rcases Qw.mp hz' with h|h
    ·exact hzs z h
    rw[QB]at h;exact⟨c5,hc5,h⟩
   obtain⟨kpx,hLx,hlx,zs,rfl,hz,hzs⟩:=pv;obtain⟨_,_,f3⟩:=dF zs hzs;obtain⟨js,_⟩:=pV hzs;have e0:("" : Str)=Str.empty:=by decide +kernel
   have e00:("" : Str).length=0:=by decide +kernel
   refine bi ⟨"", L,zs,rfl,rfl,SqL.of hLx,by rw[f3,e00];omega,?_⟩;rw[e0];have js':(Txt.join Str.empty zs).length=zs.length:=js;exact aw (hR _ _ ⟨way,_,x8,x9,rfl,⟨by omega,by omega⟩,hlx,kpx.up (by omega)⟩)
  clear hnm hlc kpc;with_reducible refine dr (NJp D m l stem H i ns (1+14*i+14)) (λR hR=>?_) (λσ7 H7 j7=>?_)
  ·obtain⟨way,nm,x8,x9,rfl,hnm,hl6,kp6⟩:=j6;have out:∀H',ak H6 H'->R [some (.ref D.d),some (.int (m:Int)),some (.str Lt),some (.str stem),some (.ref l),some (.int (0+i)),some (.str nm),some (.int way),x8,x9] H':=λH' kq=>hR _ _ ⟨way,nm,x8,x9,rfl,hnm,kq _ _ hl6,(kp6.trans (Kp.of kp6.dk kq)).up (by omega)⟩;lk;refine lA (λ_=>?_) (λ_=>?_)
   ·lk;refine⟨by decide,λp hp=>?_⟩;have S7:=aA (o:=.lst []) hp;have hl7:=S7 _ _ hl6;refine⟨l,p,_,[],λ_=>true,rfl,rfl,SqL.of hl7,SqL.of ag,(λj x y _ h=>by simp at h),⟨_,rfl,?_⟩⟩;refine lA (λhne=>?_) (λ_=>out _ S7);have nne:ns≠[]:=λz=>by subst z;simp at hne
    obtain⟨la,hla,ela⟩:=uS nne;have gla:=good la hla;have gp:=gla.pos;have gl:=gla.lt;have kp8:Kp (D.more (1+14*i+12)) H (upd H6 p (.lst [])):=kp6.trans (Kp.of kp6.dk S7);generalize upd H6 p (.lst [])=H8 at *;lk;refine bF (SqL.of hl7) ela ?_;lk;refine⟨_,rfl,by omega,?_⟩;lk;refine bt kp8 (by omega) (by omega) (by omega) λat1 H9 t0 t1 o9 kp9=>?_;have hl9:=o9 _ _ hl7 nl;lk;refine bF (SqL.of hl9) ela ?_;lk;refine gX (by omega) ?_;lk;refine bt kp9 (by omega) (by decide) (by decide) λr6 Hk r60 r61 ok kpk=>?_;obtain⟨c6,hc6,ec6⟩:=nv r60 r61;have hlk:=ok _ _ hl9 nl;refine fD (by decide +kernel) ec6 ?_;have sl1:=Txt.slice_le la none (some at1);have sl2:=Txt.slice_le la (some (at1+1)) none;refine⟨_,_,rfl,rfl,by rw[l1];omega,?_⟩;lk;refine bF (SqL.of hlk) ela ?_;lk;refine gX (by omega) ?_;refine⟨_,_,rfl,rfl,by rw[lap,l1];omega,?_⟩;exact aw (hR _ _ ⟨way,_,_,x9,rfl,⟨by rw[lap,lap,l1];omega,by rw[lap,lap,l1];omega⟩,hlk,kpk.up (by omega)⟩)
   first|exact out _ (ak.refl _)|exact iteF (out _ (ak.refl _))
  obtain⟨way,nm,x8,x9,e,hnm,hl6,kp6⟩:=j7;subst e;with_reducible refine s_seq (s_asg (i_c (aw ?_)))
  let I7:IvJ:=λU H'=>∃(t:Int) (nm:Str),U=[some (.ref D.d),some (.int (m:Int)),some (.str Lt),some (.str stem),some (.ref l),some (.int (0+i)),some (.str nm),some (.int way),x8,some (.int t)]/\NmOk (Bd (i+1)) nm/\nm∉ns/\H'=H7;with_reducible refine dr I7 (λR hR=>?_) (λσ9 H9 j9=>?_)
  ·let I8:IvF:=λn U H'=>∃(t:Nat) (nm:Str),n=26-t/\t<=11/\U=[some (.ref D.d),some (.int (m:Int)),some (.str Lt),some (.str stem),some (.ref l),some (.int (0+i)),some (.str nm),some (.int way),x8,some (.int t)]/\NmOk (Bd (i+1)) nm/\H'=H7/\(∀j,j+1<t->Xn j∈ns)/\(1<=t->nm=Xn (t-1));refine⟨I8,⟨26,0,nm,rfl,by omega,rfl,hnm,rfl,(λj h=>by omega),(λh=>by omega)⟩,?_⟩;rintro n U H' ⟨t,nm,rfl,t11,rfl,hnm,rfl,q1,q2⟩;have z26:((Lt.cps.size:Nat):Int)=26:=by decide +kernel
   lk;refine yu (SqL.of hl6) rfl (pZ ns) ?_;refine⟨_,rfl,?_⟩;refine lA (λhin=>?_) (λhin=>?_)
   ·have hmem:=jN.mp hin
    have hall:∀j,j<t->Xn j∈ns:=λj hj=>by
     by_cases z:j+1<t
     ·exact q1 j z
     have:j=t-1:=by omega
     rw[this,<-q2 (by omega)];exact hmem
    have ht:=yc (by omega) hall;refine⟨_,λσ' H' w=>⟨26-(t+1),by omega,w⟩,?_⟩;lk
    have et:atI Lt.cps.toList ((t:Nat):Int)=some (Lt.cps.getD t 0):=by
     refine bA ?_;have:t<Lt.cps.size:=by omega
     simp[Array.getD,this]
    refine fD (by decide +kernel) et ?_;lk;refine⟨_,_,rfl,rfl,xN _,?_⟩;lk;refine⟨t+1,Xn t,rfl,by omega,rfl,?_,rfl,(λj hj=>hall j (by omega)),(λ_=>rfl)⟩;have:=wT t (by omega);exact⟨by omega,by omega⟩
   exact hR _ _ ⟨t,nm,rfl,hnm,λz=>hin (jN.mpr z),rfl⟩
  obtain⟨t,nm,e,hnm,hnot,e9⟩:=j9;subst e e9;lk;refine dQ hl6 (by rw[Qd];omega) ?_;refine⟨_,_,_,_,_,ns++[nm],rfl,by omega,by simp[hn],?_,λn hn'=>?_,by rw[ag];simp,Kp.fresh (DA.le (QI _ _)) HL (kp6.up (by omega))⟩
  ·rw[XF]
   exact⟨nd,by simp,λa ha b hb e=>hnot (by
    have hb':b=nm:=by simpa using hb
    rw[<-hb',<-e];exact ha)⟩
  rcases Qw.mp hn' with h|h
  ·have g:=good n h;have g1:=g.pos;have g2:=g.lt;exact⟨g1,by omega⟩
  have:n=nm:=by simpa using h
  rw[this];exact hnm
 obtain⟨x5,x6,x7,x8,x9,ns,rfl,_,hn,nd,good,hl',kp⟩:=pv;refine s_ret (te:=eI 4) (D:={ nx:=λx H'=>Q V.non H',rt:=Q }) (aH rfl ?_);exact k l ns H' (kp.up (by omega)) HL hn nd hl'
end
def nR (K:PySem.W.Frag):Sp:=λvs H Q _=>∃(D:Dk) (a:Addr) (xs:List V),vs=[.ref D.d,.ref a]/\D.At H/\SqL K H a xs/\D.n<50000/\xs.length<=100 /\
 ∀l (ys:List V) H',Kp (D.more 100) H H'->H l=none->ys.Perm xs->H' l=some (.lst ys)->Q (.ref l) H'
theorem pick_perm:∀{ls:List V} {k:Nat} {y:V},ls[k]?=some y->(y::ls.eraseIdx k).Perm ls
 | [],_,_,h=>by simp at h
 | x::r,0,y,h=>by simp at h;subst h;exact .refl _
 | x::r,k+1,y,h=>by
  have:=pick_perm (ls:=r) (k:=k) (y:=y) (by simpa using h);rw[List.eraseIdx_cons_succ];exact(List.Perm.swap _ _ _).trans (this.cons _)
section
theorem jt:FnScope ["pool", "things", "left", "found"] ["pool", "things"] (ax (top 24)):=by fin2
theorem rR {f:Addr} {fd:FuncData} (Fu:Fun K "_law_order" "_law_order" (top 24) f fd) (T:Txt K mg TT) (f_law_take:Fn P w K mg base "_law_take" ["pool", "many"] 1 dU):FnOk P w K mg base CX0 2 f fd ["pool", "things"] (nR K):=by
 have S:=jt;refine Fu.ok S (by room) (λcdv A outer s H vs Q E hr h=>?_);obtain⟨D,a,xs,rfl,DA,hx,dn,x100,k⟩:=h;refine'⟨?_,?bb,?_⟩
 case bb =>
  walk_at "b";exact ay 2 S.nd (be dL (by rfl) T.n_list PyProof.Rows.boot_list (aa (pv 1) ad ae));exact ay 3 S.nd (pe_lst ad);refine' dZ PassesOwn.never ?_ ?_;rotate_left 2;exact(aD (fP hr.units) (pv 2) (pe_lst ad) (aG _));walk_at "p";exact(bH (bE Qz QV QW bj (pv 3) (aa (bE Qz PySem.F.slot_list_pop PySem.F.type_list_pop rZ (pv 2) (aa (aP f_law_take hr (aa (pv 0) (aa (aM aK (by rfl) T.n_len Xa (aa (pv 2) ad ae)) ad aZ) ae)) ad aZ)) ad aZ)));exact(aU (pv 3))
 x_go;lk;refine⟨_,_,rfl,.inl hx,λl hl=>?_⟩;have nl:¬D.own l:=aJ DA hl;ctx_has H l H1 S1 q1 aj hl;have kp1:Kp (D.more 0) H H1:=Kp.of DA S1;lk;refine⟨by decide,λp hp=>?_⟩;have np:¬D.own p:=aJ (D:=D.more _) kp1.dk hp;have nlp:l≠p:=am q1 hp;have HP:H p=none:=kp1.free hp;ctx_has H1 p H2 S2 q2 aj hp;have kp2:Kp (D.more 0) H H2:=kp1.trans (Kp.of kp1.dk S2);have q1':=S2 _ _ q1;clear kp1 S1 S2 hp q1;lk;let I9:IvF:=λn U H'=>∃(ls fs:List V),n=ls.length/\fs.length+ls.length=xs.length/\U=[some (.ref D.d),some (.ref a),some (.ref l),some (.ref p)]/\(fs++ls).Perm xs/\H' l=some (.lst ls)/\H' p=some (.lst fs)/\Kp (D.more fs.length) H H';refine⟨I9,⟨_,xs,[],rfl,by simp,rfl,.refl _,q1',q2,kp2⟩,?_⟩;rintro n U H' ⟨ls,fs,rfl,hlen,rfl,pm,hl',hp',kp⟩;lk;refine⟨by decide,λe he=>?_⟩;have Se:=aA (o:=.lst []) he;have hle:=Se _ _ hl';have hpe:=Se _ _ hp';have kpe:Kp (D.more fs.length) H (upd H' e (.lst [])):=kp.trans (Kp.of kp.dk Se);refine⟨l,e,_,[],λ_=>true,rfl,rfl,SqL.of hle,SqL.of ag,(λj x y _ h=>by simp at h),⟨_,rfl,?_⟩⟩;generalize upd H' e (.lst [])=H3 at *;refine lA (λhne=>?_) (λhno=>?_)
 ·have nne:ls≠[]:=λz=>by subst z;simp at hne
  have lpos:0<ls.length:=List.length_pos_iff.mpr nne;refine⟨_,λσ' H' w=>⟨ls.length-1,by omega,w⟩,?_⟩;lk;refine bt kpe (by omega) (by omega) (by omega) λr H4 r0 r1 o4 kp4=>?_;have hl4:=o4 _ _ hle nl;have hp4:=o4 _ _ hpe np;have hj:r.toNat<ls.length:=by omega
  have ez:ls[r.toNat]?=some ls[r.toNat]:=Qc hj;refine bi ?_;refine⟨l,ls,r,r.toNat,_,rfl,rfl,hl4,by omega,by omega,?_,ez,?_⟩
  ·have:ixN ls.length r=some r.toNat:=by unfold ixN;rw[Qt r0,Qt r1]
   exact(jK this).1
  refine bi ?_;have pz:=pick_perm ez;generalize ls[r.toNat]=z at *;have lz:(ls.eraseIdx r.toNat).length+1=ls.length:=by rw[List.length_eraseIdx];rw[Qt hj];omega
  refine dQ (xs:=fs) (by rw[ah nlp.symm];exact hp4) (by omega) ?_;refine⟨ls.eraseIdx r.toNat,fs++[z],by omega,by rw[Qn];show fs.length+1+_=_;omega,rfl,?_,by rw[ah nlp,ag],ag,?_⟩
  ·rw[List.append_assoc];exact(List.Perm.append_left fs pz).trans pm
  have:=Kp.fresh (o:=.lst (fs++[z])) (DA.le (QI _ _)) HP (Kp.fresh (o:=.lst (ls.eraseIdx r.toNat)) (DA.le (QI _ _)) hl kp4);rw[Qn];exact this
 have e0:ls=[]:=by
  cases ls with
  | nil=>rfl
  | cons x r=>exact absurd (by simp) hno
 subst e0;lk;exact k p fs H3 (kpe.up (by simp at hlen;omega)) HP (by simpa using pm) hpe
end
theorem TuA.inj {x y:Tu} (h1:TuA H v x) (h2:TuA H v y):x=y:=by
 obtain⟨b,e,q⟩:=h1;subst e;obtain⟨b',e,q'⟩:=h2;cases e;rw[q]at q';have:=HO.tup.inj (QJ q');simp only[List.cons.injEq,V.str.injEq]at this;exact Prod.ext this.1 this.2.1
open Classical in
theorem jR {K:PySem.W.Frag} {x t:Tu} (h1:TuA H u x) (h2:TuA H v t):EqD K H (n+2) u v (decide (TuA H u t)):=by
 have e:decide (TuA H u t)=decide (tk2 x=tk2 t):=XT.mpr ⟨λh=>by rw[h1.inj h],λh=>by rw[<-dC h];exact h1⟩;rw[e];obtain⟨a,e,_⟩:=id h1;subst e;obtain⟨b,e,_⟩:=id h2;subst e;exact wI h1.tk h2.tk rfl
open Classical in
theorem cS {K:PySem.W.Frag} {t:Tu} (h:H l=some (.lst vs)) (p:Paired (TuA H) vs ts) (hu:TuA H u t) (m:t∈ts) (q:Q (.int (ts.idxOf t:Nat)) H):oi K (.ref l) [u] H Q:=by
 have hi:=QK m;have et:ts[ts.idxOf t]?=some t:=by rw[Qc hi];exact congrArg some (List.getElem_idxOf hi)
 obtain⟨z,ez,hz⟩:=a9 p et;refine⟨l,vs,u,λv=>decide (TuA H v t),ts.idxOf t,z,rfl,rfl,SqL.of h,λv hv=>?_,ez,Qx hz,λj v hj ev=>?_,q⟩
 ·obtain⟨i,hi,rfl⟩:=Q8 hv;obtain⟨x,_,hx⟩:=paired_get p (Qc hi);exact jR hx hu
 obtain⟨x,ex,hx⟩:=paired_get p ev;refine Qv λz=>?_;cases hx.inj z;have h1:=List.not_of_lt_findIdx (xs:=ts) (p:=(·==t)) (i:=j) hj;obtain⟨h2,e2⟩:=Qe.mp ex;rw[e2]at h1;simp at h1
abbrev Pr:=Tu × Tu
def PrA (H:Hp) (v:V) (p:Pr):Prop:=∃b v1 v2,v=.ref b/\H b=some (.tup [v1,v2])/\TuA H v1 p.1/\TuA H v2 p.2
theorem PrA.kt {p:Pr} (k:aY H H') (h:PrA H v p):PrA H' v p:=let ⟨b,v1,v2,e,q,h1,h2⟩:=h;⟨b,v1,v2,e,k _ _ q,h1.kt k,h2.kt k⟩
open Classical in
theorem wF {K:PySem.W.Frag} {p:Pr} {t:Tu} (hp:PrA H v p) (hu:TuA H u t) (q:Q (.bl (decide (p.1=t) || decide (p.2=t))) H):v0 K false u v H Q:=by
 obtain⟨b,v1,v2,rfl,hb,h1,h2⟩:=hp;refine⟨b,_,λv=>decide (TuA H v t),rfl,.inr (SqT.of hb),λv hv=>?_,?_⟩
 ·rcases Qh.mp hv with rfl|hv
  ·exact jR h1 hu
  cases QB.mp hv;exact jR h2 hu
 have e1:decide (TuA H v1 t)=decide (p.1=t):=XT.mpr ⟨λh=>h1.inj h,λh=>h▸h1⟩;have e2:decide (TuA H v2 t)=decide (p.2=t):=XT.mpr ⟨λh=>h2.inj h,λh=>h▸h2⟩;rw[List.any_cons,List.any_cons,List.any_nil,Bool.or_false,e1,e2];exact q
def ku (t:Tu):List Key:=[.inr t.1,.inr t.2]
def tkR (p:Pr):av:=[.inr (ku p.1),.inr (ku p.2)]
theorem su {x y:Tu} (h:ku x=ku y):x=y:=by
 unfold ku at h;simp only[List.cons.injEq,Sum.inr.injEq]at h;exact Prod.ext h.1 h.2.1
theorem ji {x y:Pr} (h:tkR x=tkR y):x=y:=by
 unfold tkR at h;simp only[List.cons.injEq,Sum.inr.injEq]at h;exact Prod.ext (su h.1) (su h.2.1)
theorem PrA.tk {p:Pr} (h:PrA H (.ref b) p):bK H (tkR p) b:=by
 obtain⟨_,v1,v2,e,q,⟨c,e1,h1⟩,d,e2,h2⟩:=h;cases e;subst e1 e2;exact⟨_,q,.cons ⟨c,rfl,h1⟩ (.cons ⟨d,rfl,h2⟩ .nil)⟩
theorem PrA.of {p:Pr} (h:bK H (tkR p) b):PrA H (.ref b) p:=by
 obtain⟨vs,q,pr⟩:=h
 cases pr with
 | cons r1 pr=>cases pr with
  | cons r2 pr =>
   cases pr;obtain⟨c,e1,h1⟩:=r1;obtain⟨d,e2,h2⟩:=r2;subst e1 e2;exact⟨b,_,_,rfl,q,⟨c,rfl,h1⟩,d,rfl,h2⟩
structure PrOk (ws:List Str) (p:Pr):Prop where
 o:c7 ws p.1
 t:c7 ws p.2
 ne:p.1≠p.2
structure MkD (H:Hp) (a:Addr) (ws:List Str) (kvs:List (av × V)) (n:Nat):Prop where
 h:H a=some (.dT kvs)
 l:kvs.length<=n
 ok:∀kv∈kvs,∃p:Pr,kv.1=tkR p/\PrOk ws p/\∃m:Int,kv.2=.int m/\(m=0\/m=1)
 nd:(kvs.map (·.1)).Nodup
theorem r9 {k:av} {kv:av × V} (h:kv∈bh kvs k v):kv∈kvs\/kv=(k,v):=by
 unfold bh at h
 split at h
 ·obtain⟨x,hx,e⟩:=Qj.mp h;by_cases c:x.1=k
  ·rw[Qt c]at e;exact .inr (by rw[<-e,c])
  rw[Qr c]at e;exact .inl (e▸hx)
 rcases Qw.mp h with h|h
 ·exact .inl h
 exact .inr (QB.mp h)
theorem du (kvs:List (av × V)) (k:av) (v:V):(k∈kvs.map (·.1)/\(bh kvs k v).map (·.1)=kvs.map (·.1))\/(k∉kvs.map (·.1)/\(bh kvs k v).map (·.1)=kvs.map (·.1)++[k]):=by
 cases e:aQ kvs k with
 | none=>exact .inr ⟨dS e,by rw[dY v e,Q3];rfl⟩
 | some u =>
 refine .inl ⟨nE e,?_⟩;unfold bh;rw[cJ,e];rw[Qt (show (some u).isSome=true from rfl),Q0];refine List.map_congr_left λx _=>?_;show (if x.1=k then (x.1,v) else x).1=x.1
 split <;> rfl
theorem MkD.put {H':Hp} {ws:List Str} {p:Pr} {m:Int} (d:MkD H a ws kvs n) (ok:PrOk ws p) (hm:m=0\/m=1) (e:H' a=some (.dT (bh kvs (tkR p) (.int m)))):MkD H' a ws (bh kvs (tkR p) (.int m)) (n+1):=by
 refine⟨e,QG (bC _ _ _) (Nat.succ_le_succ d.l),λkv h=>?_,?_⟩
 ·rcases r9 h with h|rfl
  ·exact d.ok kv h
  exact⟨p,rfl,ok,m,rfl,hm⟩
 rcases du kvs (tkR p) (.int m) with⟨_,e⟩|⟨c,e⟩
 ·rw[e];exact d.nd
 rw[e];exact oD d.nd c
theorem MkD.set {ws:List Str} {p:Pr} {m:Int} (d:MkD H a ws kvs n) (hp:tkR p∈kvs.map (·.1)) (ok:PrOk ws p) (hm:m=0\/m=1) (e:H' a=some (.dT (bh kvs (tkR p) (.int m)))):MkD H' a ws (bh kvs (tkR p) (.int m)) n:=by
 have q:=d.put ok hm e;refine⟨q.h,?_,q.ok,q.nd⟩;rcases du kvs (tkR p) (.int m) with⟨_,e⟩|⟨c,_⟩
 ·have:=congrArg List.length e;rw[Qd,Qd]at this;rw[this];exact d.l
 exact absurd hp c
theorem MkD.same {H':Hp} {ws:List Str} (d:MkD H a ws kvs n) (e:∀o,H a=some o->H' a=some o):MkD H' a ws kvs n:=⟨e _ d.h,d.l,d.ok,d.nd⟩
theorem MkD.val {ws:List Str} {p:Pr} (d:MkD H a ws kvs n) (h:tkR p∈kvs.map (·.1)):PrOk ws p/\∃m:Int,aQ kvs (tkR p)=some (.int m)/\(m=0\/m=1):=by
 cases e:aQ kvs (tkR p) with
 | none=>exact absurd h (dS e)
 | some v =>
 unfold aQ at e;obtain⟨kv,hf,rfl⟩:=Xv.mp e;have h1:=List.find?_some hf;obtain⟨p',e1,ok,m,e2,hm⟩:=d.ok kv (List.mem_of_find?_eq_some hf);have h1:kv.1=tkR p:=XD h1;cases ji (e1.symm.trans h1);exact⟨ok,m,by rw[e2],hm⟩
theorem cmK {K:PySem.W.Frag} {g:TG} {te:TE} {tt:L2.TT} {QD:Hp->Prop} {xs:List α} {I:V->α->Prop} (R:Hp->V->α->Prop) (DA:D.At H1) (hL:H1 L=none) (e:H1 a=some (.lst vs)) (na:¬D.own a) (pa:Paired I vs xs) (few:xs.length<=100000) (mono:∀H H' v x,aY H H'->R H v x->R H' v x)
  (hs:∀i v x H,i<xs.length->I v x->x∈xs->Kp (D.more i) H1 H->∀(G:V->Hp->Prop) (N:Hp->Prop),(∀u H2,Kp (D.more (i+1)) H H2->R H2 u x->G u H2)->(∀H2,Kp (D.more (i+1)) H H2->N H2)->g v σ0 H λσ2 H2=>wk σ0 σ2/\tt σ2 H2 λb H3=>if b=true then te σ2 H3 G else N H3)
  (hd:∀H ys zs,Kp (D.more xs.length) H1 H->H L=some (.lst ys)->zs.Sublist xs->Paired (R H) ys zs->QD H) :
  ∃W:Nat->Nat->Hp->List V->Prop,(∃m,W 0 m (upd H1 L (.lst [])) [])/\∀i m H ys,W i m H ys->H L=some (.lst ys)/\(((Itl K a).stop i H/\QD H)\/((Itl K a).go i H/\∀x H',(Itl K a).yld i H x H'->g x σ0 H' λσ2 H2=>wk σ0 σ2/\tt σ2 H2 λb H3 =>
   if b=true then te σ2 H3 λv H4=>H4 L=some (.lst ys)/\ys.length<sizeLine/\∃m',m'<m/\W (i+1) m' (upd H4 L (.lst (ys++[v]))) (ys++[v]) else ∃m',m'<m/\W (i+1) m' H3 ys)):=by
 have l:=ao pa;have nL:¬D.own L:=aJ DA hL;refine⟨λi m H ys=>m=xs.length-i/\i<=xs.length/\Kp (D.more i) H1 H/\H L=some (.lst ys)/\∃zs,zs.Sublist (xs.take i)/\Paired (R H) ys zs,⟨_,rfl,QP _,Kp.of DA (aA hL),ag,[],List.nil_sublist _,.nil⟩,?_⟩;rintro i m H ys ⟨rfl,hi,kp,hy,zs,sb,p⟩;refine⟨hy,?_⟩;have ea:=kp.old _ _ e na;by_cases hl:i<xs.length
 ·refine .inr ⟨⟨vs,vs[i]'(by omega),SqL.of ea,Qc _⟩,λv H' y=>?_⟩;obtain⟨e',y⟩:=y;subst e';have ex:xs[i]?=some xs[i]:=Qc hl;have hm:xs.length-(i+1)<xs.length-i:=by omega
  obtain⟨v',ev,r⟩:=a9 pa ex;cases ev.symm.trans (y vs (SqL.of ea));have st:xs.take i++[xs[i]]=xs.take (i+1):=by rw[List.take_succ,ex];rfl
  refine hs i v xs[i] _ hl r (Qk ex) kp _ _ (λu H2 k2 ru=>?_) (λH2 k2=>?_)
  ·have yl:ys.length<=xs.length:=by
    rw[ao p];refine QG sb.length_le ?_;rw[QO];omega
   have hy2:=k2.old _ _ hy nL;have kt:=bN (o:=.lst (ys++[u])) hy2;have kt2:=Kp.tups (kp.dk.le (Nat.add_le_add_left (XN _) _)) k2;refine⟨hy2,XG yl (XG few (by decide)),_,hm,rfl,hl,Kp.fresh (DA.le (QI _ _)) hL (kp.trans k2),ag,zs++[xs[i]],?_,?_⟩
   ·rw[<-st];exact sb.append (List.Sublist.refl _)
   exact aV (ac (λv x r=>mono _ _ v x kt (mono _ _ v x kt2 r)) p) (mono _ _ u _ kt ru)
  have kt2:=Kp.tups (kp.dk.le (Nat.add_le_add_left (XN _) _)) k2;exact⟨_,hm,rfl,hl,kp.trans k2,k2.old _ _ hy nL,zs,by rw[<-st];exact sb.trans (List.sublist_append_left _ _),ac (λv x r=>mono _ _ v x kt2 r) p⟩
 obtain rfl:i=xs.length:=by omega
 rw[Q4 (Qg _)]at sb;exact .inl ⟨⟨vs,SqL.of ea,by omega⟩,hd H ys zs kp hy sb p⟩
theorem gt {xs:List V} {i:Int} (h0:-(xs.length:Int)<=i) (h1:i<xs.length):∃v,atI xs i=some v/\v∈xs:=by
 unfold atI ixN;by_cases c:0<=i
 ·rw[Qt c,Qt h1];exact⟨xs[i.toNat]'(by omega),Qc _,Xb _⟩
 rw[Qr c,Qt h0];exact⟨xs[(i+xs.length).toNat]'(by omega),Qc _,Xb _⟩
theorem bB {F:α->β->Prop} {xs:List α} {ys:List β} (p:Paired F xs ys) {x:α} (h:x∈xs):∃y∈ys,F x y:=by
 obtain⟨i,hi,rfl⟩:=Q8 h;obtain⟨y,e,r⟩:=paired_get p (Qc hi);exact⟨y,Qk e,r⟩
theorem gv (p:Paired (TuA H) vs ts):∀x∈vs,∃a,x=V.ref a:=λx hx=>by
 obtain⟨_,_,b,e,_⟩:=bB p hx;exact⟨b,e⟩
theorem d6:∀(ns:List Str),Paired (λv n=>v=V.str n) (ns.map V.str) ns
 | []=>.nil
 | _::ns=>.cons rfl (d6 ns)
theorem tZ {t u:L2.TT} {R:Bool->Hp->Prop} (J:Hp->Prop) (hT:∀H',J H'->R true H') (hF:∀H',J H'->R false H') (h:∀(R':Bool->Hp->Prop),(∀b H',J H'->R' b H')->tOr t u U H R'):tOr t u U H R:=h R λb H' j=>by
 cases b
 ·exact hF H' j
 exact hT H' j
variable {o:HO}
theorem cY {D:Addr} (h:H D=some (.dT kvs)):aY H (upd H D o):=λb ys e=>by
 rw[ah (λz=>by rw[z,h]at e;cases e)];exact e
theorem bit (b:Bool):(if b=true then (1:Int) else 0)=0\/(if b=true then (1:Int) else 0)=1:=by cases b <;> simp
structure AI (D:Dk) (H H':Hp) (Lm Lq:Addr) (ws:List Str) (c n:Nat) (pv:List V) (ps:List Pr):Prop where
 kp:Kp (D.more c) H H'
 m:H' Lm=some (.dT [])
 q:H' Lq=some (.lst pv)
 pp:Paired (PrA H') pv ps
 ok:∀p∈ps,c7 ws p.1/\c7 ws p.2
 l:ps.length<=n
section
variable {D:Dk} {H H' H2:Hp} {Lm Lq:Addr} {ws:List Str} {c n:Nat} {pv:List V} {ps:List Pr}
theorem Kp.kt {k:Nat} (kp:Kp (D.more k) H H') (old:∀b o,H' b=some o->¬D.own b->H2 b=some o):aY H' H2:=λb xs e=>old b _ e (cM (D:=D.more k) kp.dk e (λ_ z=>nomatch z))
theorem AI.draw {c':Nat} (i:AI D H H' Lm Lq ws c n pv ps) (DA:D.At H) (hm:H Lm=none) (hq:H Lq=none) (old:∀b o,H' b=some o->¬D.own b->H2 b=some o) (k:Kp (D.more c') H H2):AI D H H2 Lm Lq ws c' n pv ps :=
 ⟨k,old _ _ i.m (aJ DA hm),old _ _ i.q (aJ DA hq),ac (λ_ _ h=>h.kt (i.kp.kt old)) i.pp,i.ok,i.l⟩
theorem AI.same (i:AI D H H' Lm Lq ws c n pv ps) (S:ak H' H2):AI D H H2 Lm Lq ws c n pv ps :=
 ⟨i.kp.trans (Kp.of i.kp.dk S),S _ _ i.m,S _ _ i.q,ac (λ_ _ h=>h.kt (ak.tups S)) i.pp,i.ok,i.l⟩
theorem AI.add {v:V} {p:Pr} (i:AI D H H' Lm Lq ws c n pv ps) (DA:D.At H) (hq:H Lq=none) (pa:PrA H' v p) (ok:c7 ws p.1/\c7 ws p.2):AI D H (upd H' Lq (.lst (pv++[v]))) Lm Lq ws c (n+1) (pv++[v]) (ps++[p]):=by
 have kt:aY H' (upd H' Lq (.lst (pv++[v]))):=bN i.q;refine⟨Kp.fresh (DA.le (QI _ _)) hq i.kp,by rw[ah (λz=>by have:=i.m;rw[z,i.q]at this;cases this)];exact i.m,ag,aV (ac (λ_ _ h=>h.kt kt) i.pp) (pa.kt kt),λp' hp'=>?_,by rw[Qn];exact Nat.succ_le_succ i.l⟩;rcases Qw.mp hp' with h|h
 ·exact i.ok p' h
 rw[QB.mp h];exact ok
end
def qR:Sp:=λvs H Q _=>∃(D:Dk) (o nl:Addr) (ov:List V) (ots:List Tu) (ws:List Str),vs=[.ref D.d,.ref o,.ref nl]/\D.At H/\D.n<50000/\H o=some (.lst ov)/\Paired (TuA H) ov ots/\H nl=some (.lst (ws.map V.str))/\(∀t,t∈ots↔c7 ws t)/\1<=ots.length/\ots.length<=10/\ws.length<=5 /\
 ∀a kvs H',Kp (D.more 70) H H'->H a=none->MkD H' a ws kvs 52->Q (.ref a) H'
section
theorem kJ:FnScope ["pool", "order", "names", "marks", "pairs", "turn", "at", "one", "other"] ["pool", "order", "names"] (ax (top 25)):=by fin2
theorem ug {f:Addr} {fd:FuncData} (Fu:Fun K "_law_arcs" "_law_arcs" (top 25) f fd) (T:Txt K mg TT) (f_law_take:Fn P w K mg base "_law_take" ["pool", "many"] 1 dU):FnOk P w K mg base CX0 2 f fd ["pool", "order", "names"] qR:=by
 have S:=kJ;refine Fu.ok S (by room) (λcdv A outer s H vs Q E hr h=>?_);obtain⟨D,o,nl,ov,ots,ws,rfl,DA,dn,ho,po,hnl,all,o1,o10,w5,k⟩:=h;have hu:=cL hr;refine'⟨?_,?bb,?_⟩
 case bb =>
  walk_at "b";exact ay 3 S.nd kR;exact(kN (j:=4) S.nd rfl (by z_go) (tgs:=["name"]) (cap:=[("pool", 0)]) rfl ⟨rfl,rfl,rfl,rfl,rfl,rfl⟩ (a_ (pv 2)) (λ_ _ _ _=>(ba (i:=0) (show List.Nodup [("name" : Str),("pool" : Str)] by decide +kernel) rfl (by z_go))) (λ_ _ _ _=>(d4 (aD kT (aP f_law_take hr (aa (pv 1) (aa af ad aL) ae)) af (aG _)))) (λ_ _ _ _=>(pe_tup (aa (pe_tup (aa (pv 0) (aa bc ad aL) ae)) (aa (pe_tup (aa (pv 0) (aa bc ad aL) ae)) ad se_tup) se_tup))));walk_at "f";exact(cB (by rfl) T.n_range (aa (aP f_law_take hr (aa (pv 0) (aa (aq aN (pe_lst (aa af (aa af ad aL) aL)) (aP f_law_take hr (aa (pv 0) (aa af ad aL) ae))) ad) ae)) ad aZ));exact(bv 5 S.nd);walk_at "p";refine' bH (bE Qz QV QW bj (pv 4) ?a)
  case a =>
   walk_at "q";exact(aq aN (pv 1) (aP f_law_take hr (aa (pv 0) (aa (aM aK (by rfl) T.n_len Xa (aa (pv 1) ad ae)) ad aZ) ae)));exact(aq aN (pv 1) (aP f_law_take hr (aa (pv 0) (aa (aM aK (by rfl) T.n_len Xa (aa (pv 1) ad ae)) ad aZ) ae)))
  walk_at "f";exact(ou (by rfl) T.n_enumerate (aa (pv 1) ad ae));exact(d5 rfl (aB (bv 6 S.nd) (aB (bv 5 S.nd) bI)));walk_at "p";exact(aD (mF hr.units) (gJ (tgs:=["pair"]) (cap:=[("turn", 5)]) rfl ⟨rfl,rfl,rfl,rfl,rfl,rfl⟩ (a_ (pv 4)) (λ_ _ _ _=>(ba (i:=0) (show List.Nodup [("pair" : Str),("turn" : Str)] by decide +kernel) rfl (by z_go))) (λ_ _ _ _=>(d4 (aD (t7 (K:=K) rfl hr.units) (pv 1) (pv 0) rfl))) (λ_ _ _ _=>af)) (pe_lst ad) (aG _));refine' bH (bE Qz QV QW bj (pv 4) ?a)
  case a =>
   walk_at "q";exact(aq aN (pv 1) (aF fO (pv 6) af));exact(pv 5)
  walk_at "f";exact(a_ (pv 4));exact(d5 rfl (aB (bv 7 S.nd) (aB (bv 8 S.nd) bI)));walk_at "p";exact(aD (wj hr.units) (pv 7) (pv 8) (aG _));exact(db hu (pv 3) (pe_tup (aa (pv 7) (aa (pv 8) ad ae) ae)) (be bY (by rfl) T.n_int XB (aa (cj kT (bE Qz Xc Xd (cQ hr.units) (pv 1) (aa (pv 7) ad ae)) (bE Qz Xc Xd (cQ hr.units) (pv 1) (aa (pv 8) ad ae)) (aG _)) ad)) rfl);exact(PW.pt (xu (aD kT (aP f_law_take hr (aa (pv 0) (aa af ad aL) ae)) af (aG _)) (v4 (aD dP (aq az (pv 7) af) (aq az (pv 8) af) (aG _)))));exact(db hu (pv 3) (pe_tup (aa (pv 8) (aa (pv 7) ad ae) ae)) (aF fO af (de hu (pv 3) (pe_tup (aa (pv 7) (aa (pv 8) ad ae) ae)))) rfl);exact(aU (pv 3))
 x_go;have no_:¬D.own o:=cM DA ho (λxs e=>by cases e;exact cD (gv po));have nn_:¬D.own nl:=cM DA hnl (λxs e=>by cases e;exact cC ws);lk;refine λLm hLm=>?_;generalize hE:upd H Lm _=H1;obtain⟨S1,q1⟩:=aj hLm hE;have DA1:=DA.same S1;refine aw ?_;lk;refine bS (s_list (aH rfl ⟨nl,rfl,⟨_,SqL.of (S1 _ _ hnl)⟩,λLq hLq1=>?_⟩));have hLq:=bx S1 hLq1;refine cmK (I:=λv n=>v=V.str n) (xs:=ws) (λH v nm=>PrA H v ((nm, "+"),(nm, "-"))) DA1 hLq1 (S1 _ _ hnl) nn_ (d6 ws) (by omega) (λH H' v x k h=>h.kt k) (λi v x H' hi ev mx kp G N hG hN=>?_) (λH' ys zs kp hy sb pz=>?_)
 ·subst ev;refine aw ⟨⟨rfl,trivial⟩,?_⟩;lk;refine bt kp (by omega) (by omega) (by omega) λr H2 r0 r1 o2 kp2=>?_;lk;have k2:Kp (D.more (i+1)) H' H2:=⟨o2,kp2.dk⟩;cases decide (0<r)
  ·exact iteF (hN H2 k2)
  refine iteT ?_;lk;refine⟨by simp[sizeLine],λp1 h1=>?_⟩;generalize hE:upd H2 p1 _=H3;obtain⟨S3,q3⟩:=aj h1 hE;lk;refine⟨by simp[sizeLine],λp2 h2=>?_⟩;generalize hE:upd H3 p2 _=H4;obtain⟨S4,q4⟩:=aj h2 hE;lk;refine⟨by simp[sizeLine],λp3 h3=>?_⟩;generalize hE:upd H4 p3 _=H5;obtain⟨S5,q5⟩:=aj h3 hE;exact hG _ H5 (k2.trans (Kp.of k2.dk ((S3.trans S4).trans S5))) ⟨p3,_,_,rfl,q5,⟨p1,rfl,S5 _ _ (S4 _ _ q3)⟩,p2,rfl,S5 _ _ q4⟩
 have ai:AI D H H' Lm Lq ws 5 5 ys (zs.map λnm=>((nm, "+"),(nm, "-"))):=by
  have kpH:Kp (D.more ws.length) H H':=(Kp.of (D:=D.more ws.length) (DA.le (QI _ _)) S1).trans kp;refine⟨kpH.up w5,kp.old _ _ q1 (aJ (D:=D) DA hLm),hy,bL (f:=λnm:Str=>(((nm, "+"),(nm, "-")):Pr)) pz,λp hp=>?_,by rw[Qd];exact QG sb.length_le w5⟩;obtain⟨nm,hn,rfl⟩:=Qj.mp hp;have:=sb.subset hn;exact⟨⟨this,.inl rfl⟩,this,.inr rfl⟩
 generalize (zs.map λnm=>(((nm, "+"),(nm, "-")):Pr))=ps at ai;clear pz sb zs kp hy;lk;have ordA:∀{H':Hp} {k:Nat},Kp (D.more k) H H'->H' o=some (.lst ov)/\Paired (TuA H') ov ots:=λ{H' k} kp=>⟨kp.old _ _ ho no_,ac (λ_ _ h=>h.kt (Kp.tups (D:=D.more k) (DA.le (QI _ _)) kp)) po⟩;have pol:=ao po
 have pick:∀{H':Hp} {k:Nat} {r:Int},Kp (D.more k) H H'->-(ov.length:Int)<=r->r<ov.length->∃v t,atI ov r=some v/\TuA H' v t/\c7 ws t:=λ{H' k r} kp h0 h1=>by
  obtain⟨v,e,hv⟩:=gt h0 h1;obtain⟨t,ht,tu⟩:=bB (ordA kp).2 hv;exact⟨v,t,e,tu,(all t).mp ht⟩
 refine⟨by decide,λp0 hp0=>?_⟩;generalize hE:upd H' p0 _=H2;obtain⟨S2,q2⟩:=aj hp0 hE;have np0:¬D.own p0:=aJ (D:=D.more _) ai.kp.dk hp0;have ai2:=ai.same S2;lk;refine bt ai2.kp (by omega) (by omega) (by omega) λr H3 r0 r1 o3 kp3=>?_;have ai3:=ai2.draw DA hLm hLq o3 kp3
 have at3:∃m:Int,atI [V.int 3,V.int 12] r=some (.int m)/\1<=m/\m<=12:=by
  have:r=0\/r=1:=by omega
  rcases this with rfl|rfl
  ·exact⟨3,rfl,by decide,by decide⟩
  exact⟨12,rfl,by decide,by decide⟩
 obtain⟨m,em,m1,m12⟩:=at3;refine bF (SqL.of (o3 _ _ q2 np0)) em ?_;lk;refine bt ai3.kp (by omega) (by omega) (by omega) λr H4 r0 r1 o4 kp4=>?_;have ai4:=ai3.draw DA hLm hLq o4 kp4;clear ai ai2 ai3 o3 o4 kp3 kp4 S2 q2 hE;refine bi ⟨r,rfl,by omega,by omega,?_⟩;let I10:IvF:=λi U H'=>∃pv ps y,U=[some (.ref D.d),some (.ref o),some (.ref nl),some (.ref Lm),some (.ref Lq),y,none,none,none]/\AI D H H' Lm Lq ws (7+2*i) (5+i) pv ps;refine dw I10 ⟨_,_,_,rfl,ai4⟩ (λi U H' hi h=>?_) (λU H' h=>?_)
 ·obtain⟨pv,ps,y,rfl,ai⟩:=h;have hq:=ai.q;have hoo:=(ordA ai.kp).1;refine aw ?_;lk;refine bt ai.kp (by omega) (by omega) (by omega) λr H2 r0 r1 o2 kp2=>?_;have ai2:=ai.draw DA hLm hLq o2 kp2;obtain⟨v1,t1,e1,tu1,ok1⟩:=pick kp2 (r:=r) (by omega) r1;refine bF (SqL.of (ordA kp2).1) e1 ?_;have hoo:=(ordA ai2.kp).1;lk;refine bt ai2.kp (by omega) (by omega) (by omega) λr H3 r0 r1 o3 kp3=>?_;have ai3:=ai2.draw DA hLm hLq o3 kp3;obtain⟨v2,t2,e2,tu2,ok2⟩:=pick kp3 (r:=r) (by omega) r1;refine bF (SqL.of (ordA kp3).1) e2 ?_;lk;refine⟨by simp[sizeLine],λp4 hp4=>?_⟩;generalize hE:upd H3 p4 _=H4;obtain⟨S4,q4⟩:=aj hp4 hE;have ai4:=ai3.same S4;have:=ai4.l;refine bi (dQ ai4.q (by rw[ao ai4.pp];omega) ?_);exact⟨_,_,_,rfl,ai4.add (p:=(t1,t2)) DA hLq ⟨p4,_,_,rfl,q4,(tu1.kt (kp2.kt o3)).kt (ak.tups S4),tu2.kt (ak.tups S4)⟩ ⟨ok1,ok2⟩⟩
 obtain⟨pv,ps,y,rfl,ai⟩:=h;have ai:AI D H H' Lm Lq ws 29 16 pv ps:=⟨ai.kp.up (by omega),ai.m,ai.q,ai.pp,ai.ok,by have:=ai.l;omega⟩;have hoo:=(ordA ai.kp).1;lk;refine bn (aH rfl (bi ⟨o,rfl,⟨_,SqL.of hoo⟩,?_⟩));let I11:IvF:=λi U H'=>∃pv ps y5 y6,U=[some (.ref D.d),some (.ref o),some (.ref nl),some (.ref Lm),some (.ref Lq),y5,y6,none,none]/\AI D H H' Lm Lq ws 29 (16+i) pv ps;refine lF (xs:=ov) I11 ⟨_,_,_,_,rfl,ai⟩ (λi U H' _ ⟨_,_,_,_,_,ai⟩=>SqL.of (ordA ai.kp).1) (λi x U H' TA ex h hT=>?_) (λU H' h=>?_)
 ·obtain⟨pv,ps,y5,y6,rfl,ai⟩:=h;have hi:=(Qe.mp ex).1;generalize hE:upd H' TA _=H2;obtain⟨S2,q2⟩:=aj hT hE;have ai2:=ai.same S2;obtain⟨t,et,tu⟩:=paired_get (ordA ai2.kp).2 ex;have tkt:=(all t).mp (Qk et);refine⟨TA,_,rfl,SqT.of q2,rfl,_,_,rfl,aw ⟨_,_,rfl,aw ⟨rfl,?_⟩⟩⟩;lk;refine bS (s_list (aH rfl ⟨Lq,rfl,⟨_,SqL.of ai2.q⟩,λLc hLc=>?_⟩));refine cP (λp=>decide (p.1=t) || decide (p.2=t)) (λH v p=>v=.int 1) hLc ai2.q ai2.pp (by have:=ai2.l;omega) (λH H' v x k h=>h) (λv p H3 pa mp S3 G N hG hN=>?_) (λH3 ys S3 hy pz=>?_)
  ·refine aw ⟨⟨rfl,trivial⟩,?_⟩;lk;refine wF (pa.kt (ak.tups S3)) (tu.kt (ak.tups S3)) ⟨_,rfl,?_⟩;cases cc:(decide (p.1=t) || decide (p.2=t))
   ·exact iteF (hN cc H3 (ak.refl _))
   exact iteT (hG cc _ H3 (ak.refl _) rfl)
  refine jy hy λH4 S4=>?_;have ai4:=ai2.same (S3.trans S4);cases decide (ys.length=0)
  ·exact iteF (s_next ⟨_,_,_,_,rfl,ai4.kp,ai4.m,ai4.q,ai4.pp,ai4.ok,QG ai4.l (XN _)⟩)
  refine iteT ?_;have hq4:=ai4.q;lk;obtain⟨v1,t1,e1,tu1,ok1⟩:=pick ai4.kp (r:=(i:Int)-1) (by omega) (by omega);refine bF (SqL.of (ordA ai4.kp).1) e1 ?_;lk;refine⟨by simp[sizeLine],λp4 hp4=>?_⟩;generalize hE:upd H4 p4 _=H5;obtain⟨S5,q5⟩:=aj hp4 hE;have ai5:=ai4.same S5;have:=ai5.l;refine bi (dQ ai5.q (by rw[ao ai5.pp];omega) ?_);exact⟨_,_,_,_,rfl,ai5.add (p:=(t1,t)) DA hLq ⟨p4,_,_,rfl,q5,tu1.kt (ak.tups S5),tu.kt (ak.tups ((S3.trans S4).trans S5))⟩ ⟨ok1,tkt⟩⟩
 obtain⟨pv,ps,y5,y6,rfl,ai⟩:=h;have pl:=ao ai.pp;have p26:pv.length<=26:=by have:=ai.l;omega
 lk;refine⟨Lq,rfl,⟨_,SqL.of ai.q⟩,?_⟩;have nq:¬D.own Lq:=aJ DA hLq;have nm:¬D.own Lm:=aJ DA hLm;have aip:=ai.pp;have Hk:=ai.kp;generalize hHC:H'=HC at ai aip Hk;subst hHC;let I12:IvF:=λi U H'=>∃kvs y7 y8,U=[some (.ref D.d),some (.ref o),some (.ref nl),some (.ref Lm),some (.ref Lq),y5,y6,y7,y8]/\Kp (D.more (29+i)) H H'/\H' Lq=some (.lst pv)/\Paired (PrA H') pv ps/\MkD H' Lm ws kvs (2*i);refine cZ (xs:=pv) I12 ⟨[],_,_,rfl,ai.kp,ai.q,ai.pp,ai.m,QP _,(λ_ h=>nomatch h),.nil⟩ (λi U H' _ ⟨_,_,_,_,_,h,_⟩=>SqL.of h) (λi x U H' ex h=>?_) (λU H' h=>?_)
 ·obtain⟨kvs,y7,y8,rfl,kp,hq,pp,md⟩:=h;have hi:=(Qe.mp ex).1;obtain⟨p,ep,pa⟩:=paired_get pp ex;have pok:=ai.ok p (Qk ep);obtain⟨b,v1,v2,rfl,hb,tu1,tu2⟩:=pa;refine⟨b,_,rfl,SqT.of hb,rfl,_,_,rfl,aw ⟨_,_,rfl,aw ⟨rfl,?_⟩⟩⟩;lk;refine dI tu1 tu2 ⟨_,rfl,?_⟩;by_cases ce:p.1=p.2
  ·exact ifF (by rw[Qx ce];rfl) (s_next ⟨kvs,_,_,rfl,kp.up (by omega),hq,pp,md.h,QG md.l (by omega),md.ok,md.nd⟩)
  refine ifT (by rw[Qv ce];rfl) ?_;have hoo:=ordA kp;have ho1:=hoo.1;have mq:Lm≠Lq:=λz=>by have:=md.h;rw[z,hq]at this;cases this
  kt_k;refine dX ?_;lk;refine cS ho1 hoo.2 tu1 ((all _).mpr pok.1) ?_;lk;refine cS ho1 hoo.2 tu2 ((all _).mpr pok.2) ?_;lk;refine⟨by simp[sizeLine],λp3 h3=>?_⟩;have hm:=bit (decide (((ots.idxOf p.2:Nat):Int)<(ots.idxOf p.1:Nat)));generalize (if (decide (((ots.idxOf p.2:Nat):Int)<(ots.idxOf p.1:Nat)))=true then (1:Int) else 0)=m at hm ⊢;generalize hE:upd H' p3 _=H2;obtain⟨S2,q2⟩:=aj h3 hE;have pa2:PrA H2 (.ref p3) p:=⟨p3,_,_,rfl,q2,tu1.kt (ak.tups S2),tu2.kt (ak.tups S2)⟩;have hm2:=S2 _ _ md.h;have:=md.l;refine⟨Lm,_,rfl,fb.t hm2 pa2.tk (by omega),?_⟩;generalize hE3:upd H2 Lm _=H3;have q3:H3 Lm=some (.dT (bh kvs (tkR p) (.int m))):=by rw[<-hE3];exact ag
  have kt3:aY H' H3:=λb ys e=>by rw[<-hE3];exact cY hm2 _ _ (S2 _ _ e)
  have hq3:H3 Lq=some (.lst pv):=by rw[<-hE3,ah mq.symm];exact S2 _ _ hq
  have md3:=md.put (H':=H3) ⟨pok.1,pok.2,ce⟩ hm q3;have kp3:Kp (D.more (29+i)) H H3:=by rw[<-hE3];exact Kp.fresh (DA.le (QI _ _)) hLm (kp.trans (Kp.of kp.dk S2))
  kt_k;refine tZ (λH4=>Kp (D.more (29+i+1)) H H4/\∀b o,H3 b=some o->¬D.own b->H4 b=some o) (λH4 j=>iteT ?_) (λH4 j=>iteF ?_) (λR' hR=>?_)
  ·obtain⟨kp4,o4⟩:=j;have kt4:aY H' H4:=λb ys e=>kp3.kt o4 _ _ (kt3 _ _ e);have md4:=md3.same (H':=H4) λo e=>o4 _ _ e nm;have tu14:=tu1.kt kt4;have tu24:=tu2.kt kt4;refine dX ?_;lk;refine⟨by simp[sizeLine],λp5 h5=>?_⟩;generalize hE:upd H4 p5 _=H5;obtain⟨S5,q5⟩:=aj h5 hE;have pa5:PrA H5 (.ref p5) p:=⟨p5,_,_,rfl,q5,tu14.kt (ak.tups S5),tu24.kt (ak.tups S5)⟩;have hm5:=S5 _ _ md4.h;refine⟨Lm,_,rfl,by have z:=cw.t hm5 pa5.tk;rw[b9,Qt rfl]at z;exact z,?_⟩;lk;refine⟨by simp[sizeLine],λp6 h6=>?_⟩;generalize hE:upd H5 p6 _=H6;obtain⟨S6,q6⟩:=aj h6 hE;have S56:=S5.trans S6;have pa6:PrA H6 (.ref p6) (p.2,p.1):=⟨p6,_,_,rfl,q6,tu24.kt (ak.tups S56),tu14.kt (ak.tups S56)⟩;have hm6:=S6 _ _ hm5;refine⟨Lm,_,rfl,fb.t hm6 pa6.tk (by have:=bC kvs (tkR p) (.int m);omega),?_⟩;have md6:=md4.put (H':=upd H6 Lm (.dT (bh (bh kvs (tkR p) (.int m)) (tkR (p.2,p.1)) (.int (1-m))))) (p:=(p.2,p.1)) (m:=1-m) ⟨pok.2,pok.1,λz=>ce z.symm⟩ (by omega) ag;refine⟨_,_,_,rfl,Kp.fresh (DA.le (QI _ _)) hLm (kp4.trans (Kp.of kp4.dk S56)),by rw[ah mq.symm];exact S56 _ _ (o4 _ _ hq3 nq),ac (λ_ _ h=>h.kt λb ys e=>cY hm6 _ _ (S56 _ _ (kt4 _ _ e))) pp,md6⟩
  ·obtain⟨kp4,o4⟩:=j;have kt4:aY H' H4:=λb ys e=>kp3.kt o4 _ _ (kt3 _ _ e);have md4:=md3.same (H':=H4) λo e=>o4 _ _ e nm;exact s_next ⟨_,_,_,rfl,kp4,o4 _ _ hq3 nq,ac (λ_ _ h=>h.kt kt4) pp,md4.h,QG md4.l (by omega),md4.ok,md4.nd⟩
  obtain⟨a1,rfl,ha1⟩:=tu1.kt kt3;obtain⟨a2,rfl,ha2⟩:=tu2.kt kt3;lk;refine bt kp3 (by omega) (by omega) (by omega) λr H4 r0 r1 o4 kp4=>?_;have kt4:=kp3.kt o4;have ha14:=kt4 _ _ ha1;have ha24:=kt4 _ _ ha2;lk;cases decide (0<r)
  ·refine iteF ?_;lk;exact hR _ _ ⟨kp4,o4⟩
  exact iteT (hR _ _ ⟨kp4,o4⟩)
 obtain⟨kvs,y7,y8,rfl,kp,hq,pp,md⟩:=h;exact s_ret (aH rfl (k Lm kvs H' (kp.up (by omega)) hLm ⟨md.h,QG md.l (by omega),md.ok,md.nd⟩))
end
def u0 (r:Rg):Prop:=∀t,c7 r.ws t->∃a∈r.arcs,a.two=t
def qO:Sp:=λvs H Q _=>∃(D:Dk),vs=[.ref D.d]/\D.At H/\D.n<40000 /\
 ∀a li lo l as (r:Rg) H',Kp (D.more 1000) H H'->(∀b∈[a,li,lo,l],H b=none)->RgA H' a li lo l as r->RgOk r->u0 r->Q (.ref a) H'
theorem tP (st:StOk n z) (hc:c=48\/c=49):StOk (n+1) (z++⟨#[c]⟩):=by
 have e:(z++(⟨#[c]⟩:Str)).cps=z.cps++#[c]:=rfl;refine⟨by rw[e,Array.size_append,st.len];rfl,λd hd=>?_⟩;rw[e,Array.toList_append]at hd;rcases Qw.mp hd with h|h
 ·exact st.signs d h
 have:d=c:=by simpa using h
 rw[this];exact hc
theorem gL {α β:Type} {F:α->β->Prop}:∀{xs us:List α} {ys ws:List β},Paired F xs ys->Paired F us ws->Paired F (xs++us) (ys++ws)
 | _,_,_,_,.nil,h=>h
 | _,_,_,_,.cons r t,h=>.cons r (gL t h)
theorem iK (S:ak (upd H a o) H'):ak H (back H a H'):=λb u e=>by
 by_cases c:b=a
 ·rw[c,fY,<-c];exact e
 rw[bD c];exact S b u (by rw[ah c];exact e)
section
variable {α:Type} {K:PySem.W.Frag} {H1:Hp} {D:Addr} {σ0:St} {g:TG} {te:TE} {tt:L2.TT} {QD:Hp->Prop}
theorem uO {a:Addr} {o:Obj} {kvs:List (av × V)} (c:av × V->Bool) (R:Hp->V->av × V->Prop) (hD:H1 D=none) (e:H1 a=some (.frz o (.dT kvs))) (few:kvs.length<=100000) (mono:∀H H' v x,aY H H'->R H v x->R H' v x)
  (hs:∀kv b H,kv∈kvs->bK H kv.1 b->ak H1 H->∀(G:V->Hp->Prop) (N:Hp->Prop),(c kv=true->∀u H2,ak H H2->R H2 u kv->G u H2)->(c kv=false->∀H2,ak H H2->N H2)->g (.ref b) σ0 H λσ2 H2=>wk σ0 σ2/\tt σ2 H2 λb H3=>if b=true then te σ2 H3 G else N H3)
  (hd:∀H ys,ak H1 H->H D=some (.lst ys)->Paired (R H) ys (kvs.filter c)->QD H) :
  ∃W:Nat->Nat->Hp->List V->Prop,(∃m,W 0 m (upd H1 D (.lst [])) [])/\∀i m H ys,W i m H ys->H D=some (.lst ys)/\(((tM a o kvs).stop i H/\QD H)\/((tM a o kvs).go i H/\∀x H',(tM a o kvs).yld i H x H'->g x σ0 H' λσ2 H2=>wk σ0 σ2/\tt σ2 H2 λb H3 =>
   if b=true then te σ2 H3 λv H4=>H4 D=some (.lst ys)/\ys.length<sizeLine/\∃m',m'<m/\W (i+1) m' (upd H4 D (.lst (ys++[v]))) (ys++[v]) else ∃m',m'<m/\W (i+1) m' H3 ys)):=by
 refine cm kvs c R hD few mono (λi H S hi=>⟨S _ _ e,hi⟩) (λH S=>⟨S _ _ e,Qg _⟩) (λi x H v H' ex S y=>?_) hd;obtain⟨e',k,u,b,hk,ev,tb⟩:=y;subst e' ev;rw[ex]at hk;cases hk;exact hs _ b _ (Qk ex) tb S
end
theorem ww {bs:A3} (h:KsA H bs ks) (hk:∀k∈ks,∃p,k=tkR p):∃ps:List Pr,ks=ps.map tkR/\Paired (PrA H) (bs.map V.ref) ps:=by
 induction h with
 | nil=>exact⟨[],rfl,.nil⟩
 | @cons b k _ _ r _ ih =>
 obtain⟨ts,e,p⟩:=ih λk hk'=>hk k (Qo _ hk');obtain⟨t,rfl⟩:=hk k (by simp);exact⟨t::ts,by rw[e];rfl,.cons (PrA.of r) p⟩
theorem MkD.keys {ws:List Str} (d:MkD H a ws kvs n):∀k∈kvs.map (·.1),∃p,k=tkR p:=λk hk=>by
 obtain⟨kv,h,rfl⟩:=Qj.mp hk;obtain⟨p,e,_⟩:=d.ok kv h;exact⟨p,e⟩
theorem MkD.shp {ws:List Str} (d:MkD H a ws kvs n):tL false (kvs.map (·.1)):=by
 refine⟨λx hx y hy=>?_,λx hx=>?_⟩
 ·obtain⟨p,rfl⟩:=d.keys x hx;obtain⟨q,rfl⟩:=d.keys y hy;rfl
 obtain⟨p,rfl⟩:=d.keys x hx;exact⟨_,_,rfl⟩
theorem MkD.sort {K:PySem.W.Frag} {ws:List Str} (d:MkD H a ws kvs n) (hn:n<64) (q:∀p vs (ps:List Pr),H p=none->Paired (PrA H) vs ps->(ps.map tkR).Perm (kvs.map (·.1))->(ps.map tkR).Pairwise leF->Q (.ref p) (upd H p (.lst vs))):ra K [.ref a] H Q:=by
 refine⟨a,_,false,rfl,.inr ⟨kvs,.inl d.h,rfl⟩,d.shp,by rw[Qd];exact XG d.l hn,λp bs ks hp ka pm so=>?_⟩;obtain⟨ps,rfl,pp⟩:=ww ka λk hk=>d.keys k (pm.mem_iff.mp hk);exact q p _ ps hp pp pm so
structure RI (D:Dk) (H H':Hp) (nl tl ol Lm:Addr) (ws:List Str) (tv:List V) (tts:List Tu) (ov:List V) (ots:List Tu) (kvs:List (av × V)) (n c:Nat):Prop where
 kp:Kp (D.more c) H H'
 nl:H' nl=some (.lst (ws.map V.str))
 tl:H' tl=some (.lst tv)
 tp:Paired (TuA H') tv tts
 ol:H' ol=some (.lst ov)
 op:Paired (TuA H') ov ots
 md:MkD H' Lm ws kvs n
section
variable {D:Dk} {H H' H2:Hp} {nl tl ol Lm:Addr} {ws:List Str} {tv ov:List V} {tts ots:List Tu} {kvs:List (av × V)} {n c:Nat}
theorem RI.draw {c':Nat} (i:RI D H H' nl tl ol Lm ws tv tts ov ots kvs n c) (no:∀b∈[nl,tl,ol,Lm],¬D.own b) (old:∀b o,H' b=some o->¬D.own b->H2 b=some o) (k:Kp (D.more c') H H2):RI D H H2 nl tl ol Lm ws tv tts ov ots kvs n c' :=
 have kt:=i.kp.kt old
 ⟨k,old _ _ i.nl (no _ (by simp)),old _ _ i.tl (no _ (by simp)),ac (λ_ _ h=>h.kt kt) i.tp,old _ _ i.ol (no _ (by simp)),ac (λ_ _ h=>h.kt kt) i.op,i.md.same λo e=>old _ _ e (no _ (by simp))⟩
theorem RI.same (i:RI D H H' nl tl ol Lm ws tv tts ov ots kvs n c) (S:ak H' H2):RI D H H2 nl tl ol Lm ws tv tts ov ots kvs n c :=
 ⟨i.kp.trans (Kp.of i.kp.dk S),S _ _ i.nl,S _ _ i.tl,ac (λ_ _ h=>h.kt (ak.tups S)) i.tp,S _ _ i.ol,ac (λ_ _ h=>h.kt (ak.tups S)) i.op,i.md.same λo e=>S _ _ e⟩
theorem RI.up {n' c':Nat} (i:RI D H H' nl tl ol Lm ws tv tts ov ots kvs n c) (hn:n<=n') (hc:c<=c'):RI D H H' nl tl ol Lm ws tv tts ov ots kvs n' c' :=
 ⟨i.kp.up hc,i.nl,i.tl,i.tp,i.ol,i.op,i.md.h,QG i.md.l hn,i.md.ok,i.md.nd⟩
theorem RI.set {kvs':List (av × V)} {n':Nat} (i:RI D H H' nl tl ol Lm ws tv tts ov ots kvs n c) (DA:D.At H) (hm:H Lm=none) (d:MkD (upd H' Lm (.dT kvs')) Lm ws kvs' n'):RI D H (upd H' Lm (.dT kvs')) nl tl ol Lm ws tv tts ov ots kvs' n' c:=by
 have kt:aY H' (upd H' Lm (.dT kvs')):=cY i.md.h;have ne:∀{b xs},H' b=some (.lst xs)->b≠Lm:=λe z=>by have:=i.md.h;rw[<-z,e]at this;cases this
 exact⟨Kp.fresh (DA.le (QI _ _)) hm i.kp,by rw[ah (ne i.nl)];exact i.nl,by rw[ah (ne i.tl)];exact i.tl,ac (λ_ _ h=>h.kt kt) i.tp,by rw[ah (ne i.ol)];exact i.ol,ac (λ_ _ h=>h.kt kt) i.op,d⟩
end
def mM (kvs:List (av × V)) (p:Pr):Int:=match aQ kvs (tkR p) with
 | some (.int m)=>m
 | _=>0
def tY (z:Str):Str:=if z = "+" then "-" else "+"
theorem wf {ws:List Str} {t:Tu} (h:c7 ws t):c7 ws (t.1,tY t.2)/\((t.1,tY t.2):Tu)≠t:=by
 unfold tY;rcases h.2 with e|e
 ·rw[Qt e];exact⟨⟨h.1,.inr rfl⟩,λz=>by have z:("-" : Str)=t.2:=congrArg Prod.snd z;rw[e]at z;exact absurd z (by decide +kernel)⟩
 rw[Qr (by rw[e];decide +kernel)];exact⟨⟨h.1,.inl rfl⟩,λz=>by have z:("+" : Str)=t.2:=congrArg Prod.snd z;rw[e]at z;exact absurd z (by decide +kernel)⟩
theorem wg (h:z = "+" \/ z = "-"):∃c,atI ("+-" : Str).cps.toList (if decide (V.str z=V.str "+")=true then 1 else 0)=some c/\(⟨#[c]⟩:Str)=tY z:=by
 rcases h with rfl|rfl
 ·exact⟨45,by decide +kernel,by decide +kernel⟩
 exact⟨43,by decide +kernel,by decide +kernel⟩
theorem yz (x:Int):∃c,atI ("01" : Str).cps.toList (x % 2)=some c/\(c=48\/c=49):=by
 have:x % 2=0\/x % 2=1:=by omega
 rcases this with e|e
 ·rw[e];exact⟨48,by decide +kernel,.inl rfl⟩
 rw[e];exact⟨49,by decide +kernel,.inr rfl⟩
theorem k7 {ws:List Str} {p:Pr} (d:MkD H a ws kvs n) (h:tkR p∈kvs.map (·.1)):PrOk ws p/\aQ kvs (tkR p)=some (.int (mM kvs p))/\(mM kvs p=0\/mM kvs p=1):=by
 obtain⟨ok,m,e,hm⟩:=d.val h;have:mM kvs p=m:=by unfold mM;rw[e]
 rw[this];exact⟨ok,e,hm⟩
def lT (kvs:List (av × V)) (p:Pr):Arc:=⟨p.1,p.2,mM kvs p⟩
def bZ (ws:List Str):List Tu:=(ws.map λn=>((n, "+"):Tu))++(ws.map λn=>((n, "-"):Tu))
theorem cR {ws:List Str} {t:Tu}:t∈bZ ws↔c7 ws t:=by
 unfold bZ c7;rw[Qw,Qj,Qj]
 constructor
 ·rintro(⟨n,h,rfl⟩|⟨n,h,rfl⟩)
  ·exact⟨h,.inl rfl⟩
  exact⟨h,.inr rfl⟩
 rintro⟨h,e|e⟩
 ·exact .inl ⟨t.1,h,Prod.ext rfl e.symm⟩
 exact .inr ⟨t.1,h,Prod.ext rfl e.symm⟩
theorem jP {K:PySem.W.Frag} {ws:List Str} (hv:U[i]?=some (some (.ref nl))) (qn:H nl=some (.lst (ws.map V.str))) (w5:ws.length<=1000)
  (q:∀tl tv H',ak H H'->H tl=none->H' tl=some (.lst tv)->Paired (TuA H') tv (bZ ws)->Q (.ref tl) H') :
  tOp v3 (gx (lE K (eI i)) (dv 0) ke (qw (eJ (eI 0) (eJ (tC (V.str "+")) jk))) (bz ["name"] [])) (gx (lE K (eI i)) (dv 0) ke (qw (eJ (eI 0) (eJ (tC (V.str "-")) jk))) (bz ["name"] [])) U H Q:=by
 have one:∀{z:Str} {H:Hp} {U:St} {Q:VK},U[i]?=some (some (.ref nl))->H nl=some (.lst (ws.map V.str))->(∀L y H',ak H H'->H' L=some (.lst y)->Paired (λv n=>TuA H' v (n,z)) y ws->Q (.ref L) H')->gx (lE K (eI i)) (dv 0) ke (qw (eJ (eI 0) (eJ (tC (V.str z)) jk))) (bz ["name"] []) U H Q:=λ{z H U Q} hv qn q=>by
  refine bS (s_list (aH hv ⟨nl,rfl,⟨_,SqL.of qn⟩,λL1 hL1=>?_⟩));refine cP (I:=λv n=>v=V.str n) (λ_=>true) (λH v (n:Str)=>TuA H v (n,z)) hL1 qn (d6 ws) (by omega) (λH H' v x k h=>h.kt k) (λv x H' ev mx S' G N hG _=>?_) (λH6 y1 S6 hy1 py1=>?_)
  ·subst ev;refine aw ⟨trivial,i_yes (iteT ?_)⟩;refine i_tup (bn (aH rfl (bn (i_c (bi ⟨by simp[sizeLine],λp1 h1=>?_⟩)))));exact hG rfl _ _ (aA h1) ⟨p1,rfl,ag⟩
  rw[bO]at py1;exact q L1 y1 H6 S6 hy1 py1
 refine i_op (one hv qn λL1 y1 H6 S6 hy1 py1=>one hv (S6 _ _ qn) λL2 y2 H7 S7 hy2 py2=>?_);have l1:=ao py1;have l2:=ao py2;have big:100000<sizeLine:=by decide
 refine f9 (S7 _ _ hy1) hy2 (by omega) λtl htl=>?_;have S8:=aA (o:=.lst (y1++y2)) htl;exact q tl _ _ ((S6.trans S7).trans S8) (bx (S6.trans S7) htl) ag (gL (bL (f:=λn:Str=>((n, "+"):Tu)) (ac (λ_ _ h=>h.kt (ak.tups (S7.trans S8))) py1)) (bL (f:=λn:Str=>((n, "-"):Tu)) (ac (λ_ _ h=>h.kt (ak.tups S8)) py2)))
theorem fZ (ws:List Str):(bZ ws).length=2*ws.length:=by unfold bZ;rw[Qn,Qd,Qd];omega
open Classical in
open Classical in
open Classical in
theorem lZ {α β:Type}:∀(xs:List α) (ys:List β),xs.zip ys=(ys.zip xs).map λq=>(q.2,q.1)
 | [],ys=>by simp
 | _::_,[]=>by simp
 | x::xs,y::ys=>by rw[List.zip_cons_cons,List.zip_cons_cons,Qu,lZ xs ys]
def no0 (t:Tu) (q:Int × Arc):Bool:=decide (q.2.two=t)&&decide (q.1=0)
theorem wv (mok:MkOk as ms) (t:Tu):decide (((ms.zip as).filter (no0 t)).length=0)=cq as ms t:=by
 unfold cq;rw[lZ as ms,List.all_map,Bool.eq_iff_iff,decide_eq_true_iff,List.length_eq_zero_iff,List.filter_eq_nil_iff,Q7];refine forall_congr' λq=>forall_congr' λhq=>?_;have:=mok.m q.1 (List.of_mem_zip hq).1;unfold no0;show ¬(decide (q.2.two=t)&&decide (q.1=0))=true↔(!decide (q.2.two=t) || decide (0<q.1))=true;rw[Xz,Bool.or_eq_true,Bool.not_eq_true',decide_eq_true_iff,decide_eq_true_iff,decide_eq_true_iff,decide_eq_false_iff_not];by_cases c:q.2.two=t
 ·simp only[c,true_and,not_true,false_or];omega
 simp[c]
def b01 (b:Bool):Int:=if b=true then 1 else 0
def mkL (t:Tu) (q:Int × Arc):Int:=q.1+b01 (decide (q.2.one=t))-b01 (decide (q.2.two=t))
theorem wu {ws:List Str} (h:∀a∈as,ArOk ws a) (t:Tu):(ms.zip as).map (mkL t)=fS as ms t:=by
 unfold fS;rw[lZ as ms,Q0];refine List.map_congr_left λq hq=>?_;have ne:=(h q.2 (List.of_mem_zip hq).2).ne;show mkL t q=mkB q.2 q.1 t;unfold mkL mkB b01;by_cases c1:q.2.one=t
 ·have c2:¬q.2.two=t:=λz=>ne (c1.trans z.symm);simp[c1,c2]
 by_cases c2:q.2.two=t
 ·simp[c1,c2]
 simp[c1,c2]
theorem ye (b:Bool):∃d,atI ("01" : Str).cps.toList (if b=true then 1 else 0)=some d/\V.str ⟨#[d]⟩=sg b:=by
 cases b
 ·exact⟨48,by decide +kernel,by decide +kernel⟩
 exact⟨49,by decide +kernel,by decide +kernel⟩
def FdA (Os:A3) (H:Hp) (v:V) (f:Pl × List Tu):Prop:=∃b mb wb,v=.ref b/\H b=some (.tup [.ref mb,.str f.1.2,.ref wb])/\mb∉Os/\wb∉Os/\H mb=some (.lst (f.1.1.map V.int))/\j0 H wb f.2
variable {f:Pl × List Tu} {Os nas bs':A3}
theorem FdA.keep (kt:aY H H') (kb:∀b o,H b=some o->b∉Os->H' b=some o) (h:FdA Os H v f):FdA Os H' v f:=by
 obtain⟨b,mb,wb,e,q,n1,n2,q1,q2⟩:=h;exact⟨b,mb,wb,e,kt _ _ q,n1,n2,kb _ _ q1 n1,q2.keep kt λvs e=>kb _ _ e n2⟩
theorem FdA.more {v:V} (hN:H N=none) (h:FdA Os H v f):FdA (N::Os) H v f:=by
 obtain⟨b,mb,wb,e,q,n1,n2,q1,vs,q2,q3⟩:=h;exact⟨b,mb,wb,e,q,λz=>(Qh.mp z).elim (λz=>by rw[z,hN]at q1;cases q1) n1,λz=>(Qh.mp z).elim (λz=>by rw[z,hN]at q2;cases q2) n2,q1,vs,q2,q3⟩
theorem FdA.less (h:FdA (N::Os) H v f):FdA Os H v f:=by
 obtain⟨b,mb,wb,e,q,n1,n2,q1,q2⟩:=h;exact⟨b,mb,wb,e,q,λz=>n1 (Qo _ z),λz=>n2 (Qo _ z),q1,q2⟩
structure LU (H0 H:Hp) (Lf Lo:Addr) (Os:A3) (x:Sx) (fv:List V) (nas:A3) (nds:List Nd):Prop where
 s:ak H0 H
 f:H Lf=some (.lst fv)
 fp:Paired (FdA Os H) fv (x.ps.zip x.ws)
 o:H Lo=some (.lst (nas.map V.ref))
 op:Paired (j4 H) nas nds
 ap:∀b∈nas,b∉Os
 nd:nas.Nodup
 nw:∀b∈nas,H0 b=none
 iF:Lf∈Os
 iO:Lo∈Os
 ne:Lf≠Lo
 new:∀b∈Os,H0 b=none
 li:∀b∈Os,∃xs,H b=some (.lst xs)
section
variable {H0 H H':Hp} {Lf Lo:Addr} {Os:A3} {x:Sx} {fv:List V} {nas:A3} {nds:List Nd}
theorem LU.same (u:LU H0 H Lf Lo Os x fv nas nds) (S:ak H H'):LU H0 H' Lf Lo Os x fv nas nds :=
 ⟨u.s.trans S,S _ _ u.f,ac (λ_ _ h=>h.keep (ak.tups S) λb o e _=>S b o e) u.fp,S _ _ u.o,ac (λ_ _ h=>h.keep (ak.tups S) λvs e=>S _ _ e) u.op,u.ap,u.nd,u.nw,u.iF,u.iO,u.ne,u.new,λb hb=>let ⟨xs,e⟩:=u.li b hb;⟨xs,S _ _ e⟩⟩
theorem LU.at {L:Addr} {xs:List V} (u:LU H0 H Lf Lo Os x fv nas nds) (hL:L∈Os):aY H (upd H L (.lst xs))/\(∀b o,H b=some o->b∉Os->upd H L (.lst xs) b=some o)/\ak H0 (upd H L (.lst xs))/\∀b∈Os,∃ys,upd H L (.lst xs) b=some (.lst ys):=by
 obtain⟨zs,e⟩:=u.li L hL;refine⟨bN e,λb o e n=>by rw[ah (λz:b=L=>n (by rw[z];exact hL))];exact e,ca u.s (u.new L hL),λb hb=>?_⟩;by_cases c:b=L
 ·rw[c];exact⟨_,ag⟩
 rw[ah c];exact u.li b hb
theorem LU.put {N:Addr} {xs:List V} (u:LU H0 H Lf Lo Os x fv nas nds) (hN:N∈Os) (n1:N≠Lf) (n2:N≠Lo):LU H0 (upd H N (.lst xs)) Lf Lo Os x fv nas nds:=by
 obtain⟨kt,kb,s,li⟩:=u.at (xs:=xs) hN;exact⟨s,by rw[ah n1.symm];exact u.f,ac (λ_ _ h=>h.keep kt kb) u.fp,by rw[ah n2.symm];exact u.o,bw u.op λb w hb h=>h.keep kt λvs e=>kb _ _ e (u.ap b hb),u.ap,u.nd,u.nw,u.iF,u.iO,u.ne,u.new,li⟩
theorem LU.found {v:V} {p:Pl} {w:List Tu} (u:LU H0 H Lf Lo Os x fv nas nds) (hl:x.ws.length=x.ps.length) (f:FdA Os H v (p,w)):LU H0 (upd H Lf (.lst (fv++[v]))) Lf Lo Os ⟨x.ps++[p],x.ws++[w]⟩ (fv++[v]) nas nds:=by
 obtain⟨kt,kb,s,li⟩:=u.at (xs:=fv++[v]) u.iF;refine⟨s,ag,?_,by rw[ah u.ne.symm];exact u.o,bw u.op λb w hb h=>h.keep kt λvs e=>kb _ _ e (u.ap b hb),u.ap,u.nd,u.nw,u.iF,u.iO,u.ne,u.new,li⟩;show Paired _ _ ((x.ps++[p]).zip (x.ws++[w]));rw[List.zip_append hl.symm];exact aV (ac (λ_ _ h=>h.keep kt kb) u.fp) (f.keep kt kb)
theorem LU.node {N:Addr} {nd:Nd} (u:LU H0 H Lf Lo (N::Os) x fv nas nds) (iF:Lf∈Os) (iO:Lo∈Os) (nN:N∉Os) (at_:j4 H N nd) (no:N∉nas):LU H0 (upd H Lo (.lst ((nas++[N]).map V.ref))) Lf Lo Os x fv (nas++[N]) (nds++[nd]):=by
 obtain⟨kt,kb,s,li⟩:=u.at (xs:=(nas++[N]).map V.ref) u.iO;have hN:N≠Lo:=λz=>nN (z▸iO);refine⟨s,by rw[ah u.ne];exact u.f,ac (λ_ _ h=>(h.keep kt kb).less) u.fp,ag,aV (bw u.op λb w hb h=>h.keep kt λvs e=>kb _ _ e (u.ap b hb)) (at_.keep kt λvs e=>by rw[ah hN];exact e),λb hb=>?_,?_,λb hb=>?_,iF,iO,u.ne,λb hb=>u.new b (Qo _ hb),λb hb=>li b (Qo _ hb)⟩
 ·rcases Qw.mp hb with h|h
  ·exact λz=>u.ap b h (Qo _ z)
  rw[QB.mp h];exact nN
 ·rw[XF];refine⟨u.nd,by simp,λa ha b hb=>?_⟩;rw[QB.mp hb];exact λz=>no (z▸ha)
 rcases Qw.mp hb with h|h
 ·exact u.nw b h
 rw[QB.mp h];exact u.new N (by simp)
theorem LU.apart {N:Addr} {xs:List V} (u:LU H0 H Lf Lo Os x fv nas nds) (hN:H N=none):LU H0 (upd H N (.lst xs)) Lf Lo (N::Os) x fv nas nds:=by
 have S:=aA (o:=.lst xs) hN;have u2:=u.same S;refine⟨u2.s,u2.f,ac (λ_ _ h=>(h.more hN).keep (ak.tups S) λb o e _=>S b o e) u.fp,u2.o,u2.op,λb hb z=>?_,u.nd,u.nw,Qo _ u.iF,Qo _ u.iO,u.ne,λb hb=>?_,λb hb=>?_⟩
 ·rcases Qh.mp z with z|z
  ·obtain⟨y,hy,vs,e,_⟩:=bB u.op hb;rw[z,hN]at e;cases e
  exact u.ap b hb z
 ·rcases Qh.mp hb with z|z
  ·rw[z];exact bx u.s hN
  exact u.new b z
 rcases Qh.mp hb with z|z
 ·rw[z];exact⟨_,ag⟩
 exact u2.li b z
end
structure LV (Hb H:Hp) (Lf Lo N mb wb:Addr) (r:Rg) (x:Sx) (fv:List V) (nas:A3) (nds:List Nd) (p:Pl) (way:List Tu) (ndv:List V) (nd:Nd):Prop where
 u:LU Hb H Lf Lo [N,Lf,Lo] x fv nas nds
 xo:x.Ok r
 hN:H N=some (.lst ndv)
 pn:Paired (SgA H) ndv nd
 gp:x.ps[nds.length]?=some p
 gw:x.ws[nds.length]?=some way
 hm:H mb=some (.lst (p.1.map V.int))
 nm:mb∉[N,Lf,Lo]
 hw:j0 H wb way
 nw:wb∉[N,Lf,Lo]
section
variable {Hb H H':Hp} {Lf Lo N mb wb:Addr} {r:Rg} {x:Sx} {fv:List V} {nas:A3} {nds:List Nd} {p:Pl} {way:List Tu} {ndv:List V} {nd:Nd}
theorem LV.put {v:V} {e:Str × Nat} (i:LV Hb H Lf Lo N mb wb r x fv nas nds p way ndv nd) (n1:N≠Lf) (n2:N≠Lo) (h:SgA H v e):LV Hb (upd H N (.lst (ndv++[v]))) Lf Lo N mb wb r x fv nas nds p way (ndv++[v]) (nd++[e]):=by
 obtain⟨kt,kb,_⟩:=i.u.at (L:=N) (xs:=ndv++[v]) (by simp);exact⟨i.u.put (by simp) n1 n2,i.xo,ag,aV (ac (λ_ _ h=>h.kt kt) i.pn) (h.kt kt),i.gp,i.gw,kb _ _ i.hm i.nm,i.nm,i.hw.keep kt λvs e=>kb _ _ e i.nw,i.nw⟩
theorem LV.found {v:V} {p':Pl} {w':List Tu} (i:LV Hb H Lf Lo N mb wb r x fv nas nds p way ndv nd) (n1:N≠Lf) (xo:Sx.Ok r ⟨x.ps++[p'],x.ws++[w']⟩) (f:FdA [N,Lf,Lo] H v (p',w')):LV Hb (upd H Lf (.lst (fv++[v]))) Lf Lo N mb wb r ⟨x.ps++[p'],x.ws++[w']⟩ (fv++[v]) nas nds p way ndv nd:=by
 obtain⟨kt,kb,_⟩:=i.u.at (L:=Lf) (xs:=fv++[v]) i.u.iF;refine⟨i.u.found i.xo.1 f,xo,by rw[ah n1];exact i.hN,ac (λ_ _ h=>h.kt kt) i.pn,?_,?_,kb _ _ i.hm i.nm,i.nm,i.hw.keep kt λvs e=>kb _ _ e i.nw,i.nw⟩
 ·rw[QM (Qe.mp i.gp).1];exact i.gp
 rw[QM (Qe.mp i.gw).1];exact i.gw
end
theorem lU {ws:List Str} (nd:ws.Nodup):(bZ ws).Nodup:=by
 unfold bZ;rw[XF];refine⟨QY.mpr (nd.imp λh e=>h (congrArg Prod.fst e)),QY.mpr (nd.imp λh e=>h (congrArg Prod.fst e)),λa ha b hb e=>?_⟩;obtain⟨n,_,rfl⟩:=Qj.mp ha;obtain⟨m,_,rfl⟩:=Qj.mp hb;have:=congrArg Prod.snd e;exact absurd (show ("+" : Str) = "-" from this) (by decide +kernel)
def bq (H:Hp) (a:Addr) (sts:List (V × Key)):Prop:=∃vs,H a=some (.lst vs)/\Paired (λv (s:V × Key)=>∃b,v=.ref b/\H b=some (.tup [s.1,kV s.2])) vs sts
variable {sts:List (V × Key)}
theorem bq.same {H':Hp} (S:ak H H') (h:bq H a sts):bq H' a sts:=by
 obtain⟨vs,h1,h2⟩:=h;exact⟨vs,S _ _ h1,ac (λv s ⟨b,e,q⟩=>⟨b,e,S _ _ q⟩) h2⟩
def uZ (F W N:Addr) (H H':Hp):Prop:=∀b o,H b=some o->b≠F->b≠W->b≠N->H' b=some o
def fdK (xs:List Key) (as:A3):List (Key × V):=(xs.zip as).map λp=>(p.1,V.ref p.2)
def knK (xs:List Key):List (Key × V):=xs.map λx=>(x,V.bl true)
variable {xs ys:List Key}
theorem oR {as:A3} (h:as.length<=xs.length):(fdK xs as).length=as.length:=by
 unfold fdK;rw[Qd,List.length_zip];omega
theorem lH (xs:List Key) (as:A3):(fdK xs as).map (·.1)=xs.take as.length:=by
 unfold fdK;rw[Q0];show (xs.zip as).map (λp=>p.1)=_
 induction xs generalizing as with
 | nil=>simp
 | cons x xs ih =>
 cases as with
 | nil=>simp
 | cons a as=>simp[ih]
theorem sS {as:A3} {x:Key} (h:xs[as.length]?=some x):fdK xs (as++[a])=fdK xs as++[(x,V.ref a)]:=by
 unfold fdK
 induction xs generalizing as with
 | nil=>simp at h
 | cons y xs ih =>
 cases as with
 | nil=>simp at h;subst h;simp
 | cons b as=>simp at h;simp[ih h]
theorem sU {as:A3} (h:as.length<=xs.length) (p:xs <+: ys):fdK ys as=fdK xs as:=by
 obtain⟨t,rfl⟩:=p;unfold fdK
 induction xs generalizing as with
 | nil =>
  have:as=[]:=by simpa using h
  subst this;simp
 | cons y xs ih =>
 cases as with
 | nil=>simp
 | cons b as=>simp at h;simpa using ih h
theorem iD {kvs:List (Key × V)} {k:Key}:aQ kvs k=none↔k∉kvs.map (·.1):=by
 refine⟨dS,λh=>?_⟩
 cases e:aQ kvs k with
 | none=>rfl
 | some v=>exact absurd (nE e) h
theorem oK {k:Key}:aQ (knK xs) k=none↔k∉xs:=by
 rw[iD];unfold knK;rw[Q0];show k∉xs.map (λx=>x)↔_;rw[List.map_id']
def nxK (steps:Key->List (V × Key)) (x:Key):List Key:=(steps x).map (·.2)
def jn (P:Program) (w:World) (K:PySem.W.Frag) (mg:A2) (base:Heap) (k:Nat):Sp:=λvs H Q _=>∃(start:Key) (f:Addr) (l:Lm) (cl:List (Str × Addr)) (c:Addr) (r:V->Hp->VK->Prop) (steps:Key->List (V × Key)) (B:Nat),
 vs=[kV start,.ref f]/\H f=some (f6 f l cl c)/\Calls P w K mg base k f r/\B<=100000 /\
 (∀x H1 (Q1:VK),Bf.Reach (nxK steps) start x->ak H H1->(∀a H2,ak H1 H2->bq H2 a (steps x)->Q1 (.ref a) H2)->r (kV x) H1 Q1) /\
 (∀xs:List Key,xs.Nodup->(∀x∈xs,Bf.Reach (nxK steps) start x)->xs.length<=B) /\
 ∀(F:Addr) (as:A3) (n:Nat) (H':Hp),ak H H'->H F=none->(Bf.bfs (nxK steps) start n).length=n->as.length=n->H' F=some (.dK (fdK (Bf.bfs (nxK steps) start n) as)) ->
  (∀(i:Nat) x a,(Bf.bfs (nxK steps) start n)[i]?=some x->as[i]?=some a->bq H' a (steps x))->Q (.ref F) H'
theorem uG {P:Program} {w:World} {K:PySem.W.Frag} {mg:A2} {base:Heap} {k:Nat} {te:TE} {f c:Addr} {l:Lm} {cl:List (Str × Addr)} {r:V->Hp->VK->Prop} (hi:U[i]?=some (some (.ref f))) (C:Calls P w K mg base k f r) (hf:H f=some (f6 f l cl c))
  (q:te U H λv H1=>H1 f=some (f6 f l cl c)/\r v H1 Q):qE P w K mg base k i te U H Q:=⟨f,l,cl,c,r,hi,C,hf,q⟩
section
theorem ir:FnScope ["start", "steps_of", "found", "waiting", "known", "at", "here", "steps", "step"] ["start", "steps_of"] (ax (top 4)):=by fin2
theorem rW {kl:Nat} {f:Addr} {fd:FuncData} (Fu:Fun K "found_from" "found_from" (top 4) f fd) (T:Txt K mg TT):FnOk P w K mg base CX0 (kl+1) f fd ["start", "steps_of"] (jn P w K mg base kl):=by
 have S:=ir;refine Fu.ok S (by room) (λcdv A outer s H vs Q E hr h=>?_);obtain⟨start,fl,l,cl,c,r,steps,B,rfl,hfl,hC,hB,hst,hfew,k⟩:=h;have hu:=cL hr;refine'⟨?_,?bb,?_⟩
 case bb =>
  walk_at "b";exact ay 2 S.nd rE;exact ay 3 S.nd (pe_lst (aa (pv 0) ad ae));exact ay 4 S.nd (ow (kO (pv 0) fg oo) rfl rfl (by simp) (by decide));exact ay 5 S.nd af;refine' dZ PassesOwn.never ?_ ?_;rotate_left 2;exact(aD oz (pv 5) (aM aK (by rfl) T.n_len Xa (aa (pv 3) ad ae)) (aG _));walk_at "p";exact ay 6 S.nd (aq aN (pv 3) (pv 5));exact ay 7 S.nd (rJ (k:=kl) (i:=1) (hr.mono (by omega)) vm (pv 1) (pv 6));exact(db hu (pv 2) (pv 6) (pv 7) rfl);walk_at "f";exact(a_ (pv 7));exact(bv 8 S.nd);walk_at "p";exact(rh (iQ hu (aq az (pv 8) af) (pv 4)));exact(db hu (pv 4) (aq az (pv 8) af) fg rfl);exact(bH (bE Qz QV QW bj (pv 3) (aa (aq az (pv 8) af) ad)));exact(v8 (i:=5) S.nd rfl (by z_go) af wE);exact(aU (pv 2))
 x_go;refine s_seq (s_asg ?_);intro F hF;refine aw ?_;ctx_has H F H1 S1 q1 aj hF;lk;refine⟨by simp[sizeLine],λW hW=>?_⟩;ctx_has H1 W H2 S2 q2 aj hW;lk;refine λN hN=>?_;refine⟨_,rfl,?_⟩;refine⟨ag,[(start,.bl true)],rfl,by simp,?_⟩;rw[nG];refine aw ?_;ctx_has H2 N H3 S3 q3 aj hN;lk;have S03:ak H H3:=S1.trans (S2.trans S3);have FW:F≠W:=am q1 hW;have FN:F≠N:=am (S2 _ _ q1) hN;have WN:W≠N:=am q2 hN
 have W0:H W=none:=by
  cases e:H W with
  | none=>rfl
  | some o=>rw[S1 _ _ e]at hW;cases hW
 have N0:H N=none:=by
  cases e:H N with
  | none=>rfl
  | some o=>rw[(S1.trans S2) _ _ e]at hN;cases hN
 have off:∀{Ha Hb:Hp},ak H Ha->uZ F W N Ha Hb->ak H Hb:=λsa o b u e=>o b u (sa b u e) (am e hF) (am e W0) (am e N0);let nx:=nxK steps;let bf:=Bf.bfs nx start;have reach:∀n x,x∈bf n->Bf.Reach nx start x:=λn x h=>Bf.cT n x h;have fewB:∀n,(bf n).length<=B:=λn=>hfew _ (Bf.cU n) (reach n);let I13:IvF:=λm U H'=>∃(n:Nat) (as:A3) (x6 x7 x8:Option V),U=[some (kV start),some (.ref fl),some (.ref F),some (.ref W),some (.ref N),some (.int (n:Int)),x6,x7,x8]/\m=B+1-n/\n<=(bf n).length/\ak H H'/\H' F=some (.dK (fdK (bf n) as))/\as.length=n/\H' W=some (.lst ((bf n).map kV))/\H' N=some (.dK (knK (bf n)))/\∀(i:Nat) x a,(bf n)[i]?=some x->as[i]?=some a->bq H' a (steps x)
 refine⟨I13,
  ⟨_,0,[],none,none,none,rfl,rfl,QP _,S03,S3 _ _ (S2 _ _ q1),rfl,S3 _ _ q2,q3,λi x a _ e=>nomatch e⟩,?_⟩
 rintro m U H' ⟨n,as,x6,x7,x8,rfl,rfl,hn,SH,hF',las,hW',hN',hsts⟩;lk;rw[Qd];by_cases cn:n<(bf n).length
 case neg =>
  refine ifF (Qv (by omega)) ?_;lk;have e:(bf n).length=n:=by omega
  exact k F as n H' SH hF e las hF' hsts
 refine ifT (Qx (by omega)) ?_;let I14:IvJ:=λσ' H''=>∃(as:A3) (x6 x7 x8:Option V),σ'=[some (kV start),some (.ref fl),some (.ref F),some (.ref W),some (.ref N),some (.int ((n+1:Nat):Int)),x6,x7,x8]/\n+1<=(bf (n+1)).length/\ak H H''/\H'' F=some (.dK (fdK (bf (n+1)) as))/\as.length=n+1/\H'' W=some (.lst ((bf (n+1)).map kV))/\H'' N=some (.dK (knK (bf (n+1))))/\∀(i:Nat) x a,(bf (n+1))[i]?=some x->as[i]?=some a->bq H'' a (steps x);refine⟨I14,λσ' H'' h=>?_,?_⟩
 ·obtain⟨as,x6,x7,x8,e1,e2,e3,e4,e5,e6,e7,e8⟩:=h;exact⟨B+1-(n+1),by have:=fewB n;omega,n+1,as,x6,x7,x8,e1,rfl,e2,e3,e4,e5,e6,e7,e8⟩
 obtain⟨x,hx⟩:∃x,(bf n)[n]?=some x:=⟨_,Qc cn⟩;have hbs:bf (n+1)=Bf.aX (bf n) (nx x):=Bf.dB hx;lk;refine bF (v:=kV x) (SqL.of hW') (bA (by rw[Qs,hx];rfl)) ?_;lk;refine uG rfl hC (SH _ _ hfl) (aH rfl ⟨SH _ _ hfl,hst x H' _ (reach n x (Qk hx)) SH λa H4 S4 st4=>?_⟩);lk;refine dX (aH rfl (aH rfl (aH rfl ?_)));refine⟨F,_,rfl,fb.k (k:=x) (S4 _ _ hF') (by rw[oR (by omega)];have:=fewB n;omega),?_⟩
 have pn:bh (fdK (bf n) as) x (V.ref a)=fdK (bf n) (as++[a]):=by
  rw[sS (by rw[las];exact hx)];refine dY _ (iD.mpr ?_);rw[lH,las];intro hm;obtain⟨i,hi,e⟩:=List.mem_iff_getElem.mp hm;rw[QO]at hi;rw[List.getElem_take]at e;have e2:=(Qe.mp hx).2;have:=(List.getElem_inj (Bf.cU (nx:=nx) (s:=start) n)).mp (e.trans e2.symm);omega
 rw[pn]
 -- what the steps' list is not
 obtain⟨vs,ha,pr⟩:=id st4
 have neW:∀{Hx:Hp} {ws:List Key},Hx W=some (.lst (ws.map kV))->ws≠[]->∀{b:Addr} {sts:List (V × Key)},bq Hx b sts->b≠W:=λ{Hx ws} hw ne {b sts} ⟨us,hb,pu⟩ z=>by
  rw[z,hw]at hb;cases hb
  cases ws with
  | nil=>exact ne rfl
  | cons y ws =>
  cases pu with
  | cons h _ =>
  obtain⟨c,e,_⟩:=h;cases y <;> cases e
 have neD:∀{Hx:Hp} {D:Addr} {kvs:List (Key × V)},Hx D=some (.dK kvs)->∀{b:Addr} {sts:List (V × Key)},bq Hx b sts->b≠D:=λ{Hx D kvs} hd {b sts} ⟨us,hb,_⟩ z=>by
  rw[z,hd]at hb;cases hb
 have keepS:∀{Ha Hb:Hp} {ws:List Key} {k1 k2:List (Key × V)},Ha W=some (.lst (ws.map kV))->ws≠[]->Ha F=some (.dK k1)->Ha N=some (.dK k2)->uZ F W N Ha Hb->∀{b:Addr} {sts:List (V × Key)},bq Ha b sts->bq Hb b sts:=λ{Ha Hb ws k1 k2} hw ne h1 h2 o {b sts} st=>by
  have n1:=neW hw ne st;have n2:=neD h1 st;have n3:=neD h2 st;obtain⟨us,hb,pu⟩:=st;refine⟨us,o b _ hb n2 n1 n3,ac (λv s ⟨c,e,q⟩=>⟨c,e,o c _ q (λz=>?_) (λz=>?_) λz=>?_⟩) pu⟩
  ·rw[z,h1]at q;cases q
  ·rw[z,hw]at q;cases q
  rw[z,h2]at q;cases q
 have bne:bf n≠[]:=λz=>by rw[z]at cn;simp at cn
 have hF4:=S4 _ _ hF';have hW4:=S4 _ _ hW';have hN4:=S4 _ _ hN';have off4:uZ F W N H4 (upd H4 F (.dK (fdK (bf n) (as++[a])))):=λb o e h1 _ _=>by rw[ah h1];exact e
 have hF5:upd H4 F (.dK (fdK (bf n) (as++[a]))) F=some (.dK (fdK (bf n) (as++[a]))):=ag;have hW5:upd H4 F (.dK (fdK (bf n) (as++[a]))) W=some (.lst ((bf n).map kV)):=by rw[ah FW.symm];exact hW4
 have hN5:upd H4 F (.dK (fdK (bf n) (as++[a]))) N=some (.dK (knK (bf n))):=by rw[ah FN.symm];exact hN4
 have st5:=keepS hW4 bne hF4 hN4 off4 st4
 have sts5:∀(i:Nat) y b,(bf n)[i]?=some y->(as++[a])[i]?=some b->bq (upd H4 F (.dK (fdK (bf n) (as++[a])))) b (steps y):=λi y b e1 e2=>by
  by_cases ci:i<as.length
  ·rw[QM ci]at e2;exact keepS hW4 bne hF4 hN4 off4 ((hsts i y b e1 e2).same S4)
  rw[QQ (by omega)]at e2
  have:i=n:=by
   have:=(Qe.mp e2).1;simp at this;omega
  subst this;rw[hx]at e1;cases e1;rw[las,Nat.sub_self]at e2;cases e2;exact st5
 have SH5:ak H (upd H4 F (.dK (fdK (bf n) (as++[a])))):=off (SH.trans S4) off4;generalize upd H4 F (.dK (fdK (bf n) (as++[a])))=H5 at *;obtain⟨vs5,ha5,pr5⟩:=id st5;refine s_seq (s_for (s_list (aH rfl ⟨a,rfl,⟨_,SqL.of ha5⟩,?_⟩)));let I15:IvF:=λi σ' H'=>∃x8,σ'=[some (kV start),some (.ref fl),some (.ref F),some (.ref W),some (.ref N),some (.int (n:Int)),some (kV x),some (.ref a),x8]/\uZ F W N H5 H'/\H' F=some (.dK (fdK (bf n) (as++[a])))/\H' W=some (.lst ((Bf.aX (bf n) ((nx x).take i)).map kV))/\H' N=some (.dK (knK (Bf.aX (bf n) ((nx x).take i))));refine cZ (xs:=vs5) I15 ⟨_,rfl,λb o e _ _ _=>e,hF5,hW5,hN5⟩ (λi σ' H' _ pv=>?_) (λi v σ' H' hv pv=>?_) (λσ' H' pv=>?_)
 ·obtain⟨_,_,o,_⟩:=pv;exact SqL.of (o a _ ha5 (neD hF5 st5) (neW hW5 bne st5) (neD hN5 st5))
 ·obtain⟨x8,rfl,o,e1,e2,e3⟩:=pv;obtain⟨⟨nm,y⟩,hy,b,rfl,hb⟩:=paired_get pr5 hv;have hb':H' b=some (.tup [nm,kV y]):=o b _ hb (λz=>by rw[z,hF5]at hb;cases hb) (λz=>by rw[z,hW5]at hb;cases hb) (λz=>by rw[z,hN5]at hb;cases hb)
  have hny:(nx x)[i]?=some y:=by
   show ((steps x).map (·.2))[i]?=_;rw[Qs,hy];rfl
  have ext:Bf.aX (bf n) ((nx x).take (i+1))=Bf.aX (Bf.aX (bf n) ((nx x).take i)) [y]:=by
   rw[List.take_succ,hny,Bf.iA];rfl
  have lenN:(Bf.aX (bf n) ((nx x).take i)).length<=B:=hfew _ (Bf.dM _ _ (Bf.cU n)) λz hz=>by
   rcases(Bf.dN _ _ _).mp hz with h|h
   ·exact reach n z h
   exact .step (reach n x (Qk hx)) (List.mem_of_mem_take h)
  lk;refine lD (i_op (aH rfl (i_c (i_ixT hb' rfl (aH rfl ?_)))));refine⟨N,_,rfl,cw.k (k:=y) e3,_,rfl,?_⟩;by_cases cy:y∈Bf.aX (bf n) ((nx x).take i)
  ·rw[Bf.nA cy]at ext;refine ifF ?_ ?_
   ·cases e:aQ (knK (Bf.aX (bf n) ((nx x).take i))) y with
    | none=>exact absurd cy (oK.mp e)
    | some v=>rfl
   lk;refine⟨_,rfl,o,e1,?_,?_⟩
   ·rw[ext];exact e2
   rw[ext];exact e3
  rw[Bf.ny cy]at ext;have nn:=oK.mpr cy;refine ifT (by rw[nn];rfl) ?_;lk;refine dX (i_c (aH rfl (i_op (aH rfl (i_c (i_ixT hb' rfl ?_))))));refine⟨N,_,rfl,fb.k (k:=y) e3 (by unfold knK;rw[Qd];omega),?_⟩;have e2':upd H' N (.dK (bh (knK (Bf.aX (bf n) ((nx x).take i))) y (.bl true))) W=some (.lst ((Bf.aX (bf n) ((nx x).take i)).map kV)):=by rw[ah WN];exact e2
  have hb'':upd H' N (.dK (bh (knK (Bf.aX (bf n) ((nx x).take i))) y (.bl true))) b=some (.tup [nm,kV y]):=by rw[ah (λz=>by rw[z,e3]at hb';cases hb')];exact hb'
  refine s_drop (i_bm (aH rfl ⟨i_tyL e2',?_⟩));refine bn (i_op (aH rfl (i_c (i_ixT hb'' rfl (bi (dQ e2' (by rw[Qd];omega) ?_))))));refine⟨_,rfl,λc u e h1 h2 h3=>by rw[ah h2,ah h3];exact o c u e h1 h2 h3,by rw[ah FW,ah FN];exact e1,?_,?_⟩
  ·rw[ag,ext,Q3];rfl
  rw[ah WN.symm,ag,dY _ nn,ext];unfold knK;rw[Q3];rfl
 obtain⟨x8,rfl,o,e1,e2,e3⟩:=pv
 have lv:vs5.length=(nx x).length:=by
  show _=((steps x).map (·.2)).length;rw[Qd];exact ao pr5
 rw[lv,Q4 (Qg _),<-hbs]at e2 e3;refine⟨_,rfl,?_⟩;refine i_c ⟨_,_,rfl,rfl,?_⟩;have pre:bf n <+: bf (n+1):=Bf.lQ n
 have l1:n+1<=(bf (n+1)).length:=by
  have:=pre.length_le;omega
 refine⟨as++[a],_,_,_,by rw[show ((n+1:Nat):Int)=(n:Int)+1 from rfl];rfl,l1,off SH5 o,?_,by rw[Qn,las];rfl,e2,e3,λi y b h1 h2=>?_⟩
 ·rw[sU (by rw[Qn,las];simp;omega) pre];exact e1
 have hi:i<n+1:=by
  have:=(Qe.mp h2).1;rw[Qn,las]at this;simpa using this
 exact keepS hW5 bne hF5 hN5 o (sts5 i y b (Bf.gH pre (by omega) h1) h2)
end
structure Sh where
 ins:List Str
 outs:List Str
 z:Str
 nodes:List (List (Str × Nat))
def Sh.ws (s:Sh):List Str:=s.ins++s.outs
def Sh.node (s:Sh) (i:Nat):List (Str × Nat):=s.nodes.getD i []
def Sh.nx (s:Sh) (i:Nat):List Nat:=(s.node i).map (·.2)
abbrev Sh.R (s:Sh):Nat->Prop:=Bf.Reach s.nx 0
structure ShOk (s:Sh):Prop where
 nd:s.ws.Nodup
 w1:1<=s.ws.length
 w11:s.ws.length<=11
 st:StOk s.ws.length s.z
 n1:1<=s.nodes.length
 n100:s.nodes.length<=100
 names:∀node∈s.nodes,∀p∈node,p.1∈s.ws
 tos:∀node∈s.nodes,∀p∈node,p.2<s.nodes.length
 few:∀node∈s.nodes,node.length<=100
def Lab (s:Sh) (lam:Nat->Str):Prop:=lam 0=s.z/\∀i,s.R i->∀p∈s.node i,lam p.2=c_ (lam i) (s.ws.idxOf p.1)
def eN (node:List (Str × Nat)):List (V × Key):=node.map λp=>(V.str p.1,Sum.inl (p.2:Int))
structure ShAt (H:Hp) (a li lo ln:Addr) (nas:A3) (s:Sh):Prop where
 ha:H a=some (.tup [.ref li,.ref lo,.str s.z,.ref ln])
 hi:H li=some (.lst (s.ins.map V.str))
 ho:H lo=some (.lst (s.outs.map V.str))
 hn:H ln=some (.lst (nas.map V.ref))
 nodes:Paired (λna node=>bq H na (eN node)) nas s.nodes
variable {s:Sh}
theorem ShAt.mono (hl:∀b xs,H b=some (.lst xs)->H' b=some (.lst xs)) (ht:∀b xs,H b=some (.tup xs)->H' b=some (.tup xs)) (h:ShAt H a li lo ln nas s):ShAt H' a li lo ln nas s :=
 ⟨ht _ _ h.ha,hl _ _ h.hi,hl _ _ h.ho,hl _ _ h.hn,ac (λna node ⟨vs,h1,h2⟩=>⟨vs,hl _ _ h1,ac (λv st ⟨b,e,q⟩=>⟨b,e,ht _ _ q⟩) h2⟩) h.nodes⟩
theorem ShAt.same {H':Hp} (S:ak H H') (h:ShAt H a li lo ln nas s):ShAt H' a li lo ln nas s:=h.mono (λb xs e=>S b _ e) (λb xs e=>S b _ e)
theorem Sh.node_of {node:List (Str × Nat)} (h:s.nodes[i]?=some node):s.node i=node:=by
 unfold Sh.node;rw[Qy,h];rfl
theorem Sh.node_mem (h:i<s.nodes.length):s.node i∈s.nodes:=by
 unfold Sh.node;rw[Qy,Qc h];exact Xb h
theorem Sh.R_lt (ok:ShOk s) (r:s.R i):i<s.nodes.length:=by
 induction r with
 | start=>exact ok.n1
 | @step a b _ hb ih =>
 obtain⟨p,hp,rfl⟩:=Qj.mp hb;exact ok.tos _ (Sh.node_mem ih) p hp
def iI:Sp:=λvs H Q _=>∃(a li lo ln:Addr) (nas:A3) (s:Sh) (row nm:Str),vs=[.ref a,.str row,.str nm]/\ShAt H a li lo ln nas s/\ShOk s/\StOk s.ws.length row/\nm∈s.ws/\∀H',ak H H'->Q (.str (c_ row (s.ws.idxOf nm))) H'
section
theorem mH {f:Addr} {fd:FuncData} (Fu:Fun K "row_behind" "row_behind" (top 7) f fd) (T:Txt K mg TT) (f_turned_at:Fn P w K mg base "turned_at" ["standing", "place"] 1 gz):FnOk P w K mg base CX0 2 f fd ["sheet", "row", "name"] iI:=by
 have S:=eL;refine Fu.ok S (by room) (λcdv A outer s H vs Q E hr h=>?_);obtain⟨a,li,lo,ln,nas,sh,row,nm,rfl,at_,ok,st,hnm,k⟩:=h;refine⟨_,(pss_one (aU (aP f_turned_at hr (aa (pv 1) (aa (bE Qz Xc Xd fk (aF dm (aq az (pv 0) af) (aq az (pv 0) af)) (aa (pv 2) ad ae)) ad aZ) ae)))),?_⟩;x_go;have lw:(sh.ins.map V.str).length+(sh.outs.map V.str).length=sh.ws.length:=by rw[Qd,Qd];unfold Sh.ws;rw[Qn]
 have ha:=at_.ha;lk;refine f9 at_.hi at_.ho (by rw[lw];have:=ok.w11;omega) λp hp=>?_;rw[<-Q3];show tyV K "list" (.ref p) _/\_;refine⟨i_tyL ag,?_⟩;lk;refine⟨p,sh.ws,nm,sh.ws.idxOf nm,rfl,rfl,ag,fW hnm,eF,by have:=ok.w11;omega,?_⟩;lk;exact⟨row,_,_,rfl,st,QK hnm,ok.w11,k _ (aA hp)⟩
end
noncomputable def aW:Lm:=match bP (top 8) with
 | _::.Assign _ (.Call _ [_,.Lambda p b sc pos] _ _) _::_=>⟨("rows_found" ++ ".<locals>.") ++ "<lambda>", p,b,sc,pos⟩
 | _=>⟨"", { posonlyargs:=[],args:=[],vararg:=none,kwonlyargs:=[],kw_defaults:=[],kwarg:=none,defaults:=[] },.Constant .none 0 ⟨0,0,0,0⟩,ax (top 0),⟨0,0,0,0⟩⟩
theorem xA {y:Str} (h:([(x,NameKind.local),(y,NameKind.free)]:List (Str × NameKind)).lookup z=some .free):z=y:=by
 rw[QZ]at h;by_cases e:(z==x)=true
 ·rw[e]at h;cases h
 have e:(z==x)=false:=by simpa using e
 rw[e]at h;simp only at h;rw[QZ]at h;by_cases e2:(z==y)=true
 ·exact eq_of_beq e2
 have e2:(z==y)=false:=by simpa using e2
 rw[e2]at h;cases h
theorem se:LmScope "node" "sheet" aW.scope:=⟨rfl,rfl,rfl,rfl,rfl,by decide,by decide +kernel,λz h=>xA h⟩
structure Tk (T:Addr) (H H':Hp):Prop where
 old:∀b o,H b=some o->b≠T->H' b=some o
 tab:bT T aW H'
theorem wY {l:Lm} (t:bT T l H):∃ps,H T=some (.tbl ps):=by rcases t with e|⟨c,e,_⟩ <;> exact⟨_,e⟩
theorem dq {l:Lm} (t:bT T l H) (h:H b=some o) (n:∀ps,o≠.tbl ps):b≠T:=λz=>by
 obtain⟨ps,e⟩:=wY t;rw[z,e]at h;exact n ps (QJ h).symm
theorem eC {l:Lm} (t:bT T l H) (S:ak H H'):bT T l H':=by
 rcases t with e|⟨c,e,q⟩
 ·exact .inl (S _ _ e)
 exact .inr ⟨c,S _ _ e,S _ _ q⟩
theorem Tk.lst (t:bT T aW H) (k:Tk T H H'):∀b xs,H b=some (.lst xs)->H' b=some (.lst xs):=λb xs e=>k.old b _ e (dq t e λ_ z=>nomatch z)
theorem Tk.tup (t:bT T aW H) (k:Tk T H H'):∀b xs,H b=some (.tup xs)->H' b=some (.tup xs):=λb xs e=>k.old b _ e (dq t e λ_ z=>nomatch z)
theorem Tk.dK (t:bT T aW H) (k:Tk T H H'):∀b xs,H b=some (.dK xs)->H' b=some (.dK xs):=λb xs e=>k.old b _ e (dq t e λ_ z=>nomatch z)
theorem Tk.of (t:bT T aW H) (S:ak H H'):Tk T H H':=⟨λb o e _=>S b o e,eC t S⟩
theorem Tk.trans (a:Tk T H H1) (b:Tk T H1 H2):Tk T H H2:=⟨λc o e n=>b.old c o (a.old c o e n) n,b.tab⟩
def stK (s:Sh):Key->List (V × Key)
 | .inl i=>eN (s.node i.toNat)
 | .inr _=>[]
theorem gi (s:Sh) (i:Nat):stK s (Sum.inl (i:Int))=eN (s.node i):=by show eN (s.node (i:Int).toNat)=_;rw[QX]
theorem jC {y:Key}:y∈nxK (stK s) (Sum.inl (i:Int))↔∃p∈s.node i,y=Sum.inl (p.2:Int):=by
 unfold nxK;rw[gi];unfold eN;rw[Q0]
 constructor
 ·intro h;obtain⟨p,hp,e⟩:=Qj.mp h;exact⟨p,hp,e.symm⟩
 rintro⟨p,hp,rfl⟩;exact Qj.mpr ⟨p,hp,rfl⟩
theorem fM {x:Key} (r:Bf.Reach (nxK (stK s)) (Sum.inl 0) x):∃i:Nat,x=Sum.inl (i:Int)/\s.R i:=by
 induction r with
 | start=>exact⟨0,rfl,.start⟩
 | @step a b _ hb ih =>
 obtain⟨i,rfl,ri⟩:=ih;obtain⟨p,hp,rfl⟩:=jC.mp hb;exact⟨p.2,rfl,.step ri (Qj.mpr ⟨p,hp,rfl⟩)⟩
theorem pS (r:s.R i):Bf.Reach (nxK (stK s)) (Sum.inl 0) (Sum.inl (i:Int)):=by
 induction r with
 | start=>exact .start
 | @step a b _ hb ih =>
 obtain⟨p,hp,rfl⟩:=Qj.mp hb;exact .step ih (jC.mpr ⟨p,hp,rfl⟩)
theorem lr (ok:ShOk s) (nd:xs.Nodup) (h:∀x∈xs,∃i:Nat,x=Sum.inl (i:Int)/\s.R i):xs.length<=s.nodes.length:=by
 have:=Bf.pigeon xs ((List.range s.nodes.length).map λ(i:Nat)=>(Sum.inl (i:Int):Key)) nd λx hx=>by
  obtain⟨i,rfl,ri⟩:=h x hx;exact Qj.mpr ⟨i,Xm.mpr (Sh.R_lt ok ri),rfl⟩
 rwa [Qd,List.length_range]at this
structure RInv (s:Sh) (kvs:List (Key × V)):Prop where
 sound:∀k v,aQ kvs k=some v->∃(i:Nat) (y:Str),k=Sum.inl (i:Int)/\v=.str y/\s.R i/\StOk s.ws.length y/\∀lam,Lab s lam->lam i=y
 zero:aQ kvs (Sum.inl 0)=some (.str s.z)
 nd:(kvs.map (·.1)).Nodup
theorem RInv.at {kvs:List (Key × V)} (h:RInv s kvs) (n:aQ kvs (Sum.inl (i:Int))≠none):∃y,aQ kvs (Sum.inl (i:Int))=some (.str y)/\StOk s.ws.length y/\∀lam,Lab s lam->lam i=y:=by
 cases e:aQ kvs (Sum.inl (i:Int)) with
 | none=>exact absurd e n
 | some v =>
 obtain⟨j,y,ej,rfl,_,st,l⟩:=h.sound _ _ e;cases ej;exact⟨y,rfl,st,l⟩
theorem RInv.first (ok:ShOk s):RInv s [(Sum.inl 0,.str s.z)] where
 sound:=λk v e=>by
  by_cases c:(Sum.inl 0:Key)=k
  ·rw[br (p:=(Sum.inl 0,V.str s.z)) c]at e;cases e;subst c;exact⟨0,s.z,rfl,rfl,.start,ok.st,λlam l=>l.1⟩
  rw[bu (p:=(Sum.inl 0,V.str s.z)) c]at e;cases e
 zero:=br (p:=(Sum.inl 0,V.str s.z)) rfl
 nd:=by simp
theorem RInv.few {kvs:List (Key × V)} (ok:ShOk s) (h:RInv s kvs):kvs.length<=s.nodes.length:=by
 have:=lr ok h.nd λx hx=>by
  cases e:aQ kvs x with
  | none=>exact absurd hx (dS e)
  | some v =>
  obtain⟨i,y,rfl,_,r,_⟩:=h.sound _ _ e;exact⟨i,rfl,r⟩
 rwa [Qd]at this
theorem RInv.put {kvs:List (Key × V)} (ok:ShOk s) (h:RInv s kvs) {y:Str} {p:Str × Nat} (r:s.R i) (hp:p∈s.node i) (hy:aQ kvs (Sum.inl (i:Int))=some (.str y)) (n:aQ kvs (Sum.inl (p.2:Int))=none):RInv s (bh kvs (Sum.inl (p.2:Int)) (.str (c_ y (s.ws.idxOf p.1)))) where
 sound:=λk v e=>by
  rw[b9]at e;by_cases c:k=Sum.inl (p.2:Int)
  ·rw[Qt c]at e;cases e;obtain⟨j,y',ej,ey,_,st,l⟩:=h.sound _ _ hy;cases ej;cases ey;exact⟨p.2,_,c,rfl,.step r (Qj.mpr ⟨p,hp,rfl⟩),jh st (QK (ok.names _ (Sh.node_mem (Sh.R_lt ok r)) p hp)),λlam L=>by rw[L.2 i r p hp,l lam L]⟩
  rw[Qr c]at e;exact h.sound k v e
 zero:=by
  rw[b9];by_cases c:(Sum.inl 0:Key)=Sum.inl (p.2:Int)
  ·rw[<-c,h.zero]at n;cases n
  rw[Qr c];exact h.zero
 nd:=by
  rw[dY _ n,Q3,XF];refine⟨h.nd,by simp,λa ha b hb=>?_⟩;have:b=Sum.inl (p.2:Int):=by simpa using hb
  subst this;intro e;subst e;exact dS n ha
theorem iL {kvs:List (Key × V)} {k j:Key} (h:aQ kvs j≠none):aQ (bh kvs k v) j≠none:=by
 rw[b9]
 split
 ·exact λz=>nomatch z
 exact h
structure RowsOk (s:Sh) (kvs:List (Key × V)):Prop where
 inv:RInv s kvs
 all:∀i,s.R i->aQ kvs (Sum.inl (i:Int))≠none
def mj (TL:Addr):Sp:=λvs H Q _=>∃(a li lo ln:Addr) (nas:A3) (s:Sh),vs=[.ref a]/\ShAt H a li lo ln nas s/\ShOk s/\bT TL aW H/\∀(R:Addr) (kvs:List (Key × V)) H',Tk TL H H'->H R=none->H' R=some (.dK kvs)->RowsOk s kvs->Q (.ref R) H'
theorem j_ {kvs:List (Key × V)} (nd:(kvs.map (·.1)).Nodup):∀{i:Nat} {k:Key} {v:V},kvs[i]?=some (k,v)->aQ kvs k=some v:=by
 induction kvs with
 | nil=>intro i k v e;simp at e
 | cons p r ih =>
 intro i k v e;rw[Qu,QN]at nd
 cases i with
 | zero =>
  simp at e;subst e;exact br (p:=(k,v)) rfl
 | succ i =>
 simp at e;rw[bu (λz:p.1=k=>nd.1 (by rw[z];exact Qj.mpr ⟨(k,v),Qk e,rfl⟩))];exact ih nd.2 e
theorem qr {c:Addr} (h:H c=some o):upd (bJ H c) c o=H:=by
 funext b;by_cases e:b=c
 ·subst e;rw[ag,h]
 rw[ah e,bp e]
section
theorem nc {f c cell:Addr}:Calls P w K mg base 1 f (xq f aW "sheet" cell c (tOp (tW K) (tOp (rb K) (eI 1) (tC (.int 3))) (eI 0))) :=
 qf (k:=0) se (λpm ctv u=>rfl) λA outer s H hr=>aq aN (aq az (pv 1) af) (pv 0) (λ_ _=>rfl)
theorem ip:FnScope ["sheet", "rows", "found", "node", "name", "to"] ["sheet"] (ax (top 8)):=by fin2
theorem ua {TL cc:Addr} {f:Addr} {fd:FuncData} (Fu:FunC K "rows_found" "rows_found" (top 8) f fd cc) (T:Txt K mg TT) (CT:PySem.W.CodeHd base cc TL) (BM:eT base mg) (f_found_from:Fn P w K mg base "found_from" ["start", "steps_of"] 2 (jn P w K mg base 1)) (f_row_behind:Fn P w K mg base "row_behind" ["sheet", "row", "name"] 2 iI) :
  FnOk P w K mg base CX0 3 f fd ["sheet"] (mj TL):=by
 have S:=ip;refine Fu.ok S (λvs H Q E h=>?_) (λA outer s H vs Q E hr h=>?_)
 ·obtain⟨a,li,lo,ln,nas,sh,rfl,_⟩:=h;rfl
 obtain⟨a,li,lo,ln,nas,sh,rfl,at_,ok,tb,k⟩:=h;have hu:=cL hr;have HCL:PySem.closureFor aW.scope (PyProof.Rows.envOfC "rows_found" (ax (top 8)) s.heap.objs.size f (.ref cc))=pure [(("sheet" : Str),(s.heap.objs.size+1:Addr))]:=by rfl
 refine'⟨?_,?bb,?_⟩
 case bb =>
  walk_at "b";exact ay 1 S.nd (ow (kO af (aq az (pv 0) af) oo) rfl rfl (by simp) (by decide));exact ay 2 S.nd (we (i:=0) f_found_from (hr.mono (by first|decide|omega)) (by rfl) (aa af (aa (wa (T:=TL) (cl:=[(("sheet" : Str),(s.heap.objs.size+1:Addr))]) rfl CT BM HCL) ad) aL) rfl rfl (Or.inr (Or.inl rfl)) rfl rfl);refine' v5 ?_;rotate_left 1;walk_at "f";exact(rp (pv 2));exact(bv 3 S.nd);walk_at "p";walk_at "f";exact(a_ (de hu (pv 2) (pv 3)));exact(d5 rfl (aB (bv 4 S.nd) (aB (bv 5 S.nd) bI)));walk_at "p";exact(bH (rD (pv 1) (pv 5) (aP f_row_behind hr (aa (pv 0) (aa (de hu (pv 1) (pv 3)) (aa (pv 4) ad ae)) ae)) ⟨rfl,rfl,rfl,rfl⟩));exact(aU (pv 1))
 x_go;generalize hcell:s.heap.objs.size+1=cell;refine s_seq (s_asg ?_);refine λR hR=>?_;have aR:a≠R:=am at_.ha hR;have haR:upd H R (.dK []) a=some (.tup [.ref li,.ref lo,.str sh.z,.ref ln]):=by rw[ah aR];exact at_.ha
 show tOp (rb K) (eI 0) (tC (V.int 2)) [some (.ref a),none,none,none,none,none] (upd H R (.dK [])) _;refine i_op (aH rfl (i_c (i_ixT haR rfl ?_)));refine⟨ag,[(Sum.inl 0,.str sh.z)],rfl,by simp,?_⟩;rw[nG];refine aw ?_;ctx_has H R H1 S1 q1 aj hR;have q1:H1 R=some (.dK [(Sum.inl 0,.str sh.z)]):=q1;have tb1:bT TL aW H1:=eC tb S1;kt_k;with_reducible refine s_asg ?_
 show eJ (tC (V.int 0)) (eJ (w_ TL aW [("sheet", cell)]) jk) _ _ _;refine bn (i_c (bn ⟨tb1,λfl c H2 md=>bi ⟨_,rfl,λo uy hd ru hc=>?_⟩⟩));have md:Made TL aW [("sheet", cell)] H1 fl c H2:=md;obtain rfl:uy=Value.ref a:=ru
 -- at the call
 have at2:ShAt H2 a li lo ln nas sh:=(at_.same S1).mono (λb xs e=>md.old b _ e (dq tb1 e λ_ z=>nomatch z)) (λb xs e=>md.old b _ e (dq tb1 e λ_ z=>nomatch z));have S2c:ak H2 (upd H2 cell (c8 o)):=aA hc;have hf2:upd H2 cell (c8 o) fl=some (f6 fl aW [("sheet", cell)] c):=S2c _ _ md.fn;have hcc2:upd H2 cell (c8 o) c=some (f_ c aW.qual):=S2c _ _ md.code;have hcl2:upd H2 cell (c8 o) cell=some (c8 o):=ag;have at2c:ShAt (upd H2 cell (c8 o)) a li lo ln nas sh:=at2.same S2c;have k12:∀b u,H b=some u->b≠TL->upd H2 cell (c8 o) b=some u:=λb u e n=>S2c _ _ (md.old b u (S1 _ _ e) n);have tb2:bT TL aW (upd H2 cell (c8 o)):=.inr ⟨c,S2c _ _ md.tab,hcc2⟩;have hR2:upd H2 cell (c8 o) R=some (.dK [(Sum.inl 0,.str sh.z)]):=S2c _ _ (md.old _ _ q1 (dq tb1 q1 λ_ z=>nomatch z));have nocell:∀{b u},H2 b=some u->b≠cell:=λe z=>by rw[z,hc]at e;cases e
 have H2R:∀{b u},H b=some u->b≠TL->b≠cell:=λ{b u} e n=>nocell (md.old b u (S1 _ _ e) n);have acell:a≠cell:=nocell at2.ha;have lncell:ln≠cell:=nocell at2.hn;have Rcell:R≠cell:=nocell (md.old _ _ q1 (dq tb1 q1 λ_ z=>nomatch z));have Tcell:TL≠cell:=nocell md.tab;have ccell:c≠cell:=nocell md.code;generalize upd H2 cell (c8 o)=H2c at *;refine⟨Sum.inl 0,fl,aW,[("sheet", cell)],c,_,stK sh,sh.nodes.length,rfl,hf2,nc (c:=c) (cell:=cell),by have:=ok.n100;omega,λx H4 Q1 rx S4 q4=>?_,λxs nd h=>lr ok nd λx hx=>fM (h x hx),λF as n H3 S3 hF ln3 las hF3 sts=>?_⟩
 ·obtain⟨i,rfl,ri⟩:=fM rx;have hi:=Sh.R_lt ok ri;have at4:=at2c.same S4;have hcl4:=S4 _ _ hcl2;obtain⟨na,hna,hst⟩:=a9 at4.nodes (Qc hi);refine⟨o,Value.ref a,.ref a,S4 _ _ hf2,S4 _ _ hcc2,hcl4,hd,rfl,?_⟩;have ha4:bJ H4 cell a=some (.tup [.ref li,.ref lo,.str sh.z,.ref ln]):=by rw[bp acell];exact at4.ha
  have hn4:bJ H4 cell ln=some (.lst (nas.map V.ref)):=by rw[bp lncell];exact at4.hn
  refine i_op (i_op (aH rfl (i_c (i_ixT ha4 rfl (aH rfl ?_)))));refine(bF (v:=.ref na) (SqL.of hn4) (bA (by rw[Qs,hna];rfl)) ?_:tW K _ (.int (i:Int)) _ _);rw[qr hcl4];refine q4 na H4 (λ_ _ e=>e) ?_;rw[gi,Sh.node_of (Qc hi)];exact hst
 show dv 2 (V.ref F) _ (bJ H3 cell) _;have hcl3:=S3 _ _ hcl2;have d3:∀{b u},H3 b=some u->b≠cell->bJ H3 cell b=some u:=λe n=>by rw[bp n];exact e
 have Fcell:F≠cell:=λz=>by rw[z,hcl2]at hF;cases hF
 have FR:F≠R:=λz=>by rw[z,hR2]at hF;cases hF
 have tb3:bT TL aW (bJ H3 cell):=by
  rcases tb2 with e|⟨c',e,q⟩
  ·exact .inl (d3 (S3 _ _ e) Tcell)
  have c'cell:c'≠cell:=λz=>by rw[z,hcl2]at q;cases q
  exact .inr ⟨c',d3 (S3 _ _ e) Tcell,d3 (S3 _ _ q) c'cell⟩
 have k13:∀b u,H b=some u->b≠TL->bJ H3 cell b=some u/\b≠F:=λb u e n=>⟨d3 (S3 _ _ (k12 b u e n)) (H2R e n),λz=>by rw[<-z,k12 b u e n]at hF;cases hF⟩;have hF3d:bJ H3 cell F=some (.dK (fdK (Bf.bfs (nxK (stK sh)) (Sum.inl 0) n) as)):=d3 hF3 Fcell;have hR3:bJ H3 cell R=some (.dK [(Sum.inl 0,.str sh.z)]):=d3 (S3 _ _ hR2) Rcell;have at3:ShAt (bJ H3 cell) a li lo ln nas sh:=at_.mono (λb xs e=>(k13 b _ e (dq tb e λ_ z=>nomatch z)).1) (λb xs e=>(k13 b _ e (dq tb e λ_ z=>nomatch z)).1)
 have sts3:∀(i:Nat) x b,(Bf.bfs (nxK (stK sh)) (Sum.inl 0) n)[i]?=some x->as[i]?=some b->bq (bJ H3 cell) b (stK sh x):=λi x b e1 e2=>by
  obtain⟨vs,h1,h2⟩:=sts i x b e1 e2;refine⟨vs,d3 h1 (λz=>by rw[z,hcl3]at h1;cases h1),ac (λv st ⟨b,e,q⟩=>⟨b,e,d3 q (λz=>by rw[z,hcl3]at q;cases q)⟩) h2⟩
 have HT3:Tk TL H (bJ H3 cell):=⟨λb u e n=>(k13 b u e n).1,tb3⟩;clear d3;generalize bJ H3 cell=H3d at *;generalize hO:Bf.bfs (nxK (stK sh)) (Sum.inl 0) n=order at *;refine aw ?_;kt_k;refine(xk (a:=F) (u:=.dK (fdK order as)) (.inl hF3d) trivial λob=>?_);have h4:∀b,b≠F->upd H3d F (.frz ob (.dK (fdK order as))) b=H3d b:=λb n=>ah n;have hF4:upd H3d F (.frz ob (.dK (fdK order as))) F=some (.frz ob (.dK (fdK order as))):=ag;generalize upd H3d F (.frz ob (.dK (fdK order as)))=H4 at *;have l4:∀b xs,H3d b=some (.lst xs)->H4 b=some (.lst xs):=λb xs e=>by rw[h4 b (λz=>by rw[z,hF3d]at e;cases e)];exact e
 have t4:∀b xs,H3d b=some (.tup xs)->H4 b=some (.tup xs):=λb xs e=>by rw[h4 b (λz=>by rw[z,hF3d]at e;cases e)];exact e
 have at4:ShAt H4 a li lo ln nas sh:=at3.mono l4 t4;have hR4:H4 R=some (.dK [(Sum.inl 0,.str sh.z)]):=by rw[h4 R FR.symm];exact hR3
 have sts4:∀(i:Nat) x b,order[i]?=some x->as[i]?=some b->bq H4 b (stK sh x):=λi x b e1 e2=>by
  obtain⟨vs,h1,h2⟩:=sts3 i x b e1 e2;exact⟨vs,l4 _ _ h1,ac (λv st ⟨b,e,q⟩=>⟨b,e,t4 _ _ q⟩) h2⟩
 have oreach:∀x∈order,∃i:Nat,x=Sum.inl (i:Int)/\sh.R i:=λx hx=>fM (Bf.cT n x (hO▸hx));have lfd:(fdK order as).length=n:=by rw[oR (by omega)];exact las
 -- each has a row when it is gone along
 have has:∀(kvs:List (Key × V)) (j:Nat),RInv sh kvs->(∀j',j'<j->∀x,order[j']?=some x->∀y∈nxK (stK sh) x,aQ kvs y≠none)->∀x,order[j]?=some x->aQ kvs x≠none:=λkvs j inv hp x hx=>by
  cases j with
  | zero =>
   have:=Bf.lP (nx:=nxK (stK sh)) (s:=(Sum.inl 0:Key)) n;rw[hO,hx]at this;cases this;rw[inv.zero];exact λz=>nomatch z
  | succ j =>
  obtain⟨i,y,h1,_,h3,h4⟩:=Bf.ie n (j+1) x (by omega) (by rw[hO];exact hx);rw[hO]at h3;exact hp i h1 y h3 x h4
 refine s_for (tS (aH rfl ⟨F,ob,_,rfl,hF4,?_⟩));let I16:IvF:=λj σ' H'=>∃(kvs:List (Key × V)) (x3 x4 x5:Option V),σ'=[some (.ref a),some (.ref R),some (.ref F),x3,x4,x5]/\(∀b u,H4 b=some u->b≠R->H' b=some u)/\H' R=some (.dK kvs)/\RInv sh kvs/\∀j',j'<j->∀x,order[j']?=some x->∀y∈nxK (stK sh) x,aQ kvs y≠none
 refine sQ I16
  ⟨_,_,_,_,rfl,λb u e _=>e,hR4,RInv.first ok,λj' h=>absurd h (Nat.not_lt_zero _)⟩ (λj σ' H' _ pv=>?_) (λj ky vl σ' H' hj pv=>?_) (λσ' H' pv=>?_)
 ·obtain⟨_,_,_,_,_,o4,_⟩:=pv;exact o4 F _ hF4 FR
 ·obtain⟨kvs,x3,x4,x5,rfl,o4,hR',inv,hp⟩:=pv
  obtain⟨x,b,hx,hb,e1,e2⟩:∃x b,order[j]?=some x/\as[j]?=some b/\ky=x/\vl=V.ref b:=by
   have hj2:=hj;unfold fdK at hj2;rw[Qs]at hj2
   cases q:(order.zip as)[j]? with
   | none=>rw[q]at hj2;cases hj2
   | some p =>
   rw[q]at hj2;cases hj2;have:=List.getElem?_zip_eq_some.mp q;exact⟨p.1,p.2,this.1,this.2,rfl,rfl⟩
  subst e1 e2;obtain⟨i,rfl,ri⟩:=oreach ky (Qk hx);obtain⟨vs,hvs,prs⟩:=sts4 j _ b hx hb;have bR:b≠R:=λz=>by rw[z,hR4]at hvs;cases hvs
  have dg:cw H' F (kV (Sum.inl (i:Int))) (some (.ref b)):=by
   refine .inl ⟨fdK order as,Sum.inl (i:Int),.inr ⟨ob,o4 F _ hF4 FR⟩,rfl,?_⟩;refine(j_ ?_ hj).symm;rw[lH];exact(List.take_sublist _ _).nodup (hO▸Bf.cU n)
  refine aw ?_;refine s_for (s_list (i_dget (aH rfl (aH rfl ⟨F,_,rfl,dg,b,rfl,⟨_,SqL.of (o4 _ _ hvs bR)⟩,?_⟩))))
  have lvs:vs.length=(sh.node i).length:=by
   have:=ao prs;rw[gi]at this;unfold eN at this;rwa [Qd]at this
  let I17:IvF:=λi' σ' H'=>∃(kvs:List (Key × V)) (x4 x5:Option V),σ'=[some (.ref a),some (.ref R),some (.ref F),some (.int (i:Int)),x4,x5]/\(∀b u,H4 b=some u->b≠R->H' b=some u)/\H' R=some (.dK kvs)/\RInv sh kvs/\(∀j',j'<j->∀x,order[j']?=some x->∀y∈nxK (stK sh) x,aQ kvs y≠none)/\∀q∈(sh.node i).take i',aQ kvs (Sum.inl (q.2:Int))≠none
  refine cZ (xs:=vs) I17
   ⟨_,_,_,rfl,o4,hR',inv,hp,λq hq=>by simp at hq⟩ (λi' σ' H' _ pv=>?_) (λi' v σ' H' hv pv=>?_) (λσ' H' pv=>?_)
  ·obtain⟨_,_,_,_,o5,_⟩:=pv;exact SqL.of (o5 _ _ hvs bR)
  ·obtain⟨kvs,x4,x5,rfl,o5,hR5,inv5,hp5,hq5⟩:=pv;obtain⟨st,hst,tp,rfl,htp⟩:=paired_get prs hv;rw[gi]at hst;unfold eN at hst;rw[Qs]at hst
   cases hpq:(sh.node i)[i']? with
   | none=>rw[hpq]at hst;cases hst
   | some q =>
   rw[hpq]at hst;cases hst;have hqm:q∈sh.node i:=Qk hpq;have htp':H' tp=some (.tup [.str q.1,.int (q.2:Int)]):=o5 _ _ htp (λz=>by rw[z,hR4]at htp;cases htp);refine⟨tp,_,rfl,SqT.of htp',rfl,_,_,rfl,aw ⟨_,_,rfl,aw ⟨rfl,?_⟩⟩⟩;have hrow:=has kvs j inv5 hp5 _ hx;obtain⟨y,hy,sty,_⟩:=inv5.at hrow;refine s_drop (uD (aH rfl ⟨R,rfl,.inl ⟨_,.inl hR5⟩,aH rfl ?_⟩));refine i_call (bn (aH rfl (bn (i_dget (aH rfl (aH rfl ⟨R,_,rfl,by have:=cw.k (k:=Sum.inl (i:Int)) hR5;rw[hy]at this;exact this,bn (aH rfl (bi ?_))⟩))))));have at5:ShAt H' a li lo ln nas sh:=at4.mono (λb xs e=>o5 b _ e (λz=>by rw[z,hR4]at e;cases e)) (λb xs e=>o5 b _ e (λz=>by rw[z,hR4]at e;cases e));refine⟨a,li,lo,ln,nas,sh,y,q.1,rfl,at5,ok,sty,ok.names _ (Sh.node_mem (Sh.R_lt ok ri)) q hqm,λH6 S6=>?_⟩
   have nextq:∀{kv:List (Key × V)},(∀q'∈(sh.node i).take i',aQ kv (Sum.inl (q'.2:Int))≠none)->aQ kv (Sum.inl (q.2:Int))≠none->∀q'∈(sh.node i).take (i'+1),aQ kv (Sum.inl (q'.2:Int))≠none:=λh1 h2 q' hq'=>by
    rw[List.take_succ,hpq]at hq';rcases Qw.mp hq' with h|h
    ·exact h1 q' h
    have:q'=q:=by simpa using h
    subst this;exact h2
   refine⟨kvs,Sum.inl (q.2:Int),S6 _ _ hR5,rfl,λv hv=>?_,λhn=>⟨by have:=inv5.few ok;have:=ok.n100;omega,?_⟩⟩
   ·exact⟨kvs,_,_,rfl,λb u e n=>S6 _ _ (o5 b u e n),S6 _ _ hR5,inv5,hp5,nextq hq5 (by rw[hv];exact λz=>nomatch z)⟩
   refine⟨_,_,_,rfl,λb u e n=>by rw[ah n];exact S6 _ _ (o5 b u e n),ag,inv5.put ok ri hqm hy hn,λj' h x hx' y hy'=>iL (hp5 j' h x hx' y hy'),nextq (λq' h=>iL (hq5 q' h)) ?_⟩;rw[b9,Qt rfl];exact λz=>nomatch z
  obtain⟨kvs,x4,x5,rfl,o5,hR5,inv5,hp5,hq5⟩:=pv;refine⟨kvs,_,_,_,rfl,o5,hR5,inv5,λj' h x hx' y hy'=>?_⟩;by_cases c:j'<j
  ·exact hp5 j' c x hx' y hy'
  have:j'=j:=by omega
  subst this;rw[hx]at hx';cases hx';obtain⟨q,hq,rfl⟩:=jC.mp hy';exact hq5 q (by rw[lvs,Q4 (Qg _)];exact hq)
 obtain⟨kvs,x3,x4,x5,rfl,o4,hR',inv,hp⟩:=pv;rw[lfd]at hp;refine⟨o4 F _ hF4 FR,?_⟩;refine s_ret (aH rfl ?_);refine k R kvs _ ⟨λb u e nT=>?_,?_⟩ hR (by rw[bD FR.symm];exact hR') ⟨inv,λi ri=>?_⟩
 ·obtain⟨e3,nF⟩:=k13 b u e nT;rw[bD nF];exact o4 b u (by rw[h4 b nF];exact e3) (am e hR)
 ·have bk:∀{b u},H3d b=some u->b≠F->b≠R->back H3d F H' b=some u:=λ{b u} e n1 n2=>by rw[bD n1];exact o4 b u (by rw[h4 b n1];exact e) n2
  rcases tb3 with e|⟨c',e,q⟩
  ·exact .inl (bk e (λz=>by rw[z,hF3d]at e;cases e) (λz=>by rw[z,hR3]at e;cases e))
  exact .inr ⟨c',bk e (λz=>by rw[z,hF3d]at e;cases e) (λz=>by rw[z,hR3]at e;cases e),bk q (λz=>by rw[z,hF3d]at q;cases q) (λz=>by rw[z,hR3]at q;cases q)⟩
 have hm:(Sum.inl (i:Int):Key)∈order:=hO▸(Bf.uQ (by rw[hO];omega) _).mpr (pS ri);obtain⟨j,hj,e⟩:=List.mem_iff_getElem.mp hm;exact has kvs j inv (λj' h=>hp j' (by omega)) _ (by rw[Qc hj,e])
end
structure SgsOk (s:Sh) (vs:List V):Prop where
 len:vs.length=s.nodes.length
 row:∀i,s.R i->∃y,vs[i]?=some (.str y)/\StOk s.ws.length y/\∀lam,Lab s lam->lam i=y
 none:∀i,i<s.nodes.length->¬s.R i->vs[i]?=some .non
def nQ (TL:Addr):Sp:=λvs H Q _=>∃(a li lo ln:Addr) (nas:A3) (s:Sh),vs=[.ref a]/\ShAt H a li lo ln nas s/\ShOk s/\bT TL aW H/\∀(L:Addr) (us:List V) H',Tk TL H H'->H L=none->H' L=some (.lst us)->SgsOk s us->Q (.ref L) H'
section
theorem kz:FnScope ["sheet", "rows"] ["sheet"] (ax (top 9)):=by fin2
theorem rQ {TL:Addr} {f:Addr} {fd:FuncData} (Fu:Fun K "signs_of" "signs_of" (top 9) f fd) (T:Txt K mg TT) (f_rows_found:Fn P w K mg base "rows_found" ["sheet"] 3 (mj TL)):FnOk P w K mg base CX0 4 f fd ["sheet"] (nQ TL):=by
 have S:=kz;refine Fu.ok S (by room) (λcdv A outer s H vs Q E hr h=>?_);obtain⟨a,li,lo,ln,nas,sh,rfl,at_,ok,tb,k⟩:=h;have hu:=cL hr
 refine⟨_,(pss_cons (ay 1 S.nd (aP f_rows_found hr (aa (pv 0) ad ae)))
  (pss_one (aU (eM "node" [("rows", 1)] (cB (by rfl) T.n_range (aa (aM aK (by rfl) T.n_len Xa (aa (aq az (pv 0) af) ad)) ad aZ)) (λ_ _ _ _=>(rH hu (pv 1) (pv 0) ⟨rfl,rfl,rfl,rfl⟩)))))),?_⟩
 x_go;lk;refine⟨a,li,lo,ln,nas,sh,rfl,at_,ok,tb,λR kvs H1 t1 hR hR1 rok=>?_⟩;have at1:ShAt H1 a li lo ln nas sh:=at_.mono (t1.lst tb) (t1.tup tb);have ha1:=at1.ha;have lnas:nas.length=sh.nodes.length:=ao at1.nodes;have n100:=ok.n100;lk;refine bS ?_;lk;refine⟨_,_,rfl,Or.inl (SqL.of at1.hn),?_⟩;lk;refine⟨by rw[Qd];omega,by rw[Qd];omega,λL hL=>?_⟩;rw[QX,Qd,lnas]
 have HL:H L=none:=by
  cases e:H L with
  | none=>rfl
  | some o =>
  by_cases c:L=TL
  ·obtain⟨ps,e2⟩:=wY t1.tab;rw[c,e2]at hL;cases hL
  rw[t1.old _ _ e c]at hL;cases hL
 let I18:IvC:=λn H' ys=>ak H1 H'/\H' L=some (.lst ys)/\ys=(List.range n).map λ(i:Nat)=>(aQ kvs (Sum.inl (i:Int))).getD .non;refine hX (n:=sh.nodes.length) I18 ⟨aA hL,ag,rfl⟩ (λi H' ys pv=>pv.2.1) (λi H' ys hi pv=>?_) (λH' ys pv=>?_)
 ·obtain⟨S2,hl,rfl⟩:=pv;rw[Int.zero_add];refine aw ⟨by repeat' (first|exact trivial|refine⟨rfl,?_⟩),i_yes (iteT ?_)⟩;refine uF (aH rfl ⟨R,rfl,.inl ⟨_,.inl (S2 _ _ hR1)⟩,aH rfl ⟨_,cw.k (k:=Sum.inl (i:Int)) (S2 _ _ hR1),?_⟩⟩);refine lX.mk hl hi (by rw[Qd,List.length_range];omega) ⟨ca S2 hL,ag,?_⟩;rw[List.range_succ,Q3];rfl
 obtain⟨S2,hl,rfl⟩:=pv;refine k L _ H' (t1.trans (Tk.of t1.tab S2)) HL hl ⟨by rw[Qd,List.length_range],λi ri=>?_,λi hi nr=>?_⟩
 ·obtain⟨y,hy,st,l⟩:=rok.inv.at (rok.all i ri);refine⟨y,?_,st,l⟩;rw[Qs,List.getElem?_range (Sh.R_lt ok ri)];show some ((aQ kvs (Sum.inl (i:Int))).getD .non)=_;rw[hy];rfl
 rw[Qs,List.getElem?_range hi];show some ((aQ kvs (Sum.inl (i:Int))).getD .non)=_
 cases e:aQ kvs (Sum.inl (i:Int)) with
 | none=>rfl
 | some v =>
 obtain⟨j,y,ej,_,r,_⟩:=rok.inv.sound _ _ e;cases ej;exact absurd r nr
end
def ig (m:List Nat) (i:Nat):List Nat:=if i∈m then m else m++[i]
def cx (r:Rg) (ts:List Tu) (ps:List Pl) (p:Pl):Nd:=(ts.filter (cq r.arcs p.1)).map λt=>(t.1,ps.idxOf (bQ r p t).2)
theorem gW [BEq α] [LawfulBEq α] {xs ys:List α} {x:α} (h:x∈xs):(xs++ys).idxOf x=xs.idxOf x:=by
 rw[List.idxOf_append,Qt h]
theorem wS {k:Nat} (h:i<k):ig (List.range k) i=List.range k:=by unfold ig;rw[Qt (Xm.mpr h)]
theorem uV {k:Nat}:ig (List.range k) k=List.range (k+1):=by
 unfold ig;rw[Qr (by rw[Xm];omega),List.range_succ]
structure InO (r:Rg) (row:Str) (ss:List Sp1) (x x':Sx) (nd nd':Nd) (e:List Pl):Prop where
 ps:x'.ps=x.ps++e
 un:x.ps.Nodup->x'.ps.Nodup
 node:nd'=nd++ss.map λs=>(s.1.1,x'.ps.idxOf s.2)
 odd:∀s∈ss,fj r row s=none/\s.2∈x'.ps
 new:∀p∈e,∃s∈ss,s.2=p
 l40:x.ps.length<=40->x'.ps.length<=40
 met:(ss.map λs=>x'.ps.idxOf s.2).foldl ig (List.range x.ps.length)=List.range x'.ps.length
theorem jM {r:Rg} {row:Str} {way:List Tu}:∀{ss:List Sp1} {x x':Sx} {nd nd':Nd},cK r row way ss x nd=.inr (x',nd')->∃e,InO r row ss x x' nd nd' e
 | [],x,x',nd,nd',h=>by
  unfold cK at h;cases h;exact⟨[],by simp,id,by simp,(λs hs=>nomatch hs),(λs hs=>nomatch hs),id,rfl⟩
 | s::ss,x,x',nd,nd',h=>by
  unfold cK at h
  cases co:fj r row s with
  | some w=>rw[co]at h;cases h
  | none =>
  rw[co]at h;dsimp only at h;by_cases c:s.2∈x.ps
  ·rw[Qt c]at h;obtain⟨e,i⟩:=jM h;have m':s.2∈x'.ps:=by rw[i.ps];exact Q6 _ c
   have ei:x'.ps.idxOf s.2=x.ps.idxOf s.2:=by rw[i.ps,gW c]
   refine⟨e,i.ps,i.un,?_,λt ht=>?_,λp hp=>?_,i.l40,?_⟩
   ·rw[i.node,List.append_assoc,Qu,ei];rfl
   ·rcases Qh.mp ht with rfl|ht
    ·exact⟨co,m'⟩
    exact i.odd t ht
   ·obtain⟨t,ht,q⟩:=i.new p hp;exact⟨t,Qo _ ht,q⟩
   rw[Qu,List.foldl_cons,ei,wS (QK c)];exact i.met
  rw[Qr c]at h;by_cases c40:x.ps.length=40
  ·rw[Qt c40]at h;cases h
  rw[Qr c40]at h;obtain⟨e,i⟩:=jM h;have ps:=i.ps;dsimp only at ps;have m0:s.2∈x.ps++[s.2]:=by simp
  have m':s.2∈x'.ps:=by rw[ps];exact Q6 _ m0
  have ei:x'.ps.idxOf s.2=x.ps.length:=by rw[ps,gW m0,List.idxOf_append,Qr c];simp
  refine⟨s.2::e,by rw[ps];simp,λn=>i.un ?_,?_,λt ht=>?_,λp hp=>?_,λl=>i.l40 ?_,?_⟩
  ·show (x.ps++[s.2]).Nodup;rw[XF];exact⟨n,by simp,λa ha b hb z=>c (by rw[<-QB.mp hb,<-z];exact ha)⟩
  ·rw[i.node,List.append_assoc,Qu,ei];rfl
  ·rcases Qh.mp ht with rfl|ht
   ·exact⟨co,m'⟩
   exact i.odd t ht
  ·rcases Qh.mp hp with rfl|hp
   ·exact⟨s,by simp,rfl⟩
   obtain⟨t,ht,q⟩:=i.new p hp;exact⟨t,Qo _ ht,q⟩
  ·show (x.ps++[s.2]).length<=40;rw[Qn,QT];omega
  have im:=i.met;rw[Qu,List.foldl_cons,ei,uV];rw[show (x.ps++[s.2]).length=x.ps.length+1 by rw[Qn];rfl]at im;exact im
structure OuO (r:Rg) (ts:List Tu) (x:Sx) (nds:List Nd):Prop where
 le:nds.length<=x.ps.length
 l40:x.ps.length<=40
 zero:x.ps[0]?=some (mks r.arcs,r.z)
 nd:x.ps.Nodup
 ok:∀p∈x.ps,PlOk r p
 node:∀(i:Nat) (p:Pl),i<nds.length->x.ps[i]?=some p->nds[i]?=some (cx r ts x.ps p)/\∀t∈ts,cq r.arcs p.1 t=true->(bQ r p t).2∈x.ps/\fj r p.2 (bQ r p t)=none
 from_:∀(j:Nat) (p:Pl),x.ps[j]?=some p->j=0\/∃(i:Nat) (q:Pl) (t:Tu),i<j/\i<nds.length/\x.ps[i]?=some q/\t∈ts/\cq r.arcs q.1 t=true/\(bQ r q t).2=p
 met:((nds.map λnd=>nd.map (·.2)).flatten).foldl ig [0]=List.range x.ps.length
structure ShtP (r:Rg) (ts:List Tu) (ps:List Pl) (nds:List Nd):Prop where
 len:ps.length=nds.length
 l40:ps.length<=40
 zero:ps[0]?=some (mks r.arcs,r.z)
 nd:ps.Nodup
 ok:∀p∈ps,PlOk r p
 node:∀(i:Nat) (p:Pl),ps[i]?=some p->nds[i]?=some (cx r ts ps p)
 mem:∀p∈ps,∀t∈ts,cq r.arcs p.1 t=true->(bQ r p t).2∈ps/\fj r p.2 (bQ r p t)=none
 from_:∀(j:Nat) (p:Pl),ps[j]?=some p->j=0\/∃(i:Nat) (q:Pl) (t:Tu),i<j/\ps[i]?=some q/\t∈ts/\cq r.arcs q.1 t=true/\(bQ r q t).2=p
 met:((nds.map λnd=>nd.map (·.2)).flatten).foldl ig [0]=List.range ps.length
theorem mJ {p:Pl} (h:∀t∈ts,cq r.arcs p.1 t=true->(bQ r p t).2∈ps):cx r ts (ps++e) p=cx r ts ps p:=by
 unfold cx;refine List.map_congr_left λt ht=>?_;obtain⟨ht,hm⟩:=QR.mp ht;rw[gW (h t ht hm)]
variable {nds:List Nd}
theorem OuO.step (ok:RgOk r) (wt:Wt r ts) {x x':Sx} {nd:Nd} {p:Pl} (o:OuO r ts x nds) (hp:x.ps[nds.length]?=some p) (h:cK r p.2 way (bU r ts p) x []=.inr (x',nd)):OuO r ts x' (nds++[nd]):=by
 obtain⟨e,i⟩:=jM h;have hl:=(Qe.mp hp).1;have pm:=Qk hp;have ps:=i.ps;have old:∀j,j<x.ps.length->x'.ps[j]?=x.ps[j]?:=λj hj=>by rw[ps,QM hj]
 have st:∀t∈ts,cq r.arcs p.1 t=true->(bQ r p t).2∈x'.ps/\fj r p.2 (bQ r p t)=none:=λt ht hm=>by
  have:=i.odd (bQ r p t) (Qj.mpr ⟨t,QR.mpr ⟨ht,hm⟩,rfl⟩);exact⟨this.2,this.1⟩
 have en:nd=cx r ts x'.ps p:=by
  rw[i.node];unfold bU cx;rw[List.nil_append,Q0];rfl
 refine⟨?_,i.l40 o.l40,?_,i.un o.nd,λq hq=>?_,λj q hj hq=>?_,λj q hq=>?_,?_⟩
 ·rw[ps,Qn,Qn,QT];omega
 ·rw[old 0 (by omega)];exact o.zero
 ·rw[ps]at hq;rcases Qw.mp hq with hq|hq
  ·exact o.ok q hq
  obtain⟨s,hs,rfl⟩:=i.new q hq;obtain⟨t,ht,rfl⟩:=Qj.mp hs;obtain⟨ht,hm⟩:=QR.mp ht;refine kg (o.ok p pm) (Wt.ok ok wt ht) hm λz=>?_;have co:=(st t ht hm).2;unfold fj at co;rw[Qt z]at co
  split at co <;> cases co
 ·rw[Qn,QT]at hj;by_cases c:j<nds.length
  ·rw[old j (by omega)]at hq;obtain⟨h1,h2⟩:=o.node j q c hq;refine⟨?_,λt ht hm=>⟨by rw[ps];exact Q6 _ (h2 t ht hm).1,(h2 t ht hm).2⟩⟩;rw[QM c,h1,ps,mJ λt ht hm=>(h2 t ht hm).1]
  obtain rfl:j=nds.length:=by omega
  rw[old _ hl,hp]at hq;cases hq;exact⟨by rw[QQ (Qg _),Nat.sub_self,en];rfl,st⟩
 ·by_cases c:j<x.ps.length
  ·rw[old j c]at hq;rcases o.from_ j q hq with h|⟨k,q',t,h1,h2,h3,h4⟩
   ·exact .inl h
   exact .inr ⟨k,q',t,h1,by rw[Qn];omega,by rw[old k (by omega)];exact h3,h4⟩
  rw[ps,QQ (by omega)]at hq;obtain⟨s,hs,rfl⟩:=i.new q (Qk hq);obtain⟨t,ht,rfl⟩:=Qj.mp hs;obtain⟨ht,hm⟩:=QR.mp ht;exact .inr ⟨nds.length,p,t,by omega,by rw[Qn];simp,by rw[old _ hl];exact hp,ht,hm,rfl⟩
 have im:=i.met;rw[Q3,List.flatten_append,List.foldl_append,o.met,<-im,en];unfold cx bU;rw[Q0];simp[Function.comp_def]
theorem ox {r:Rg} {ts:List Tu} (ok:RgOk r) (wt:Wt r ts):∀{f:Nat} {x:Sx} {nds nds':List Nd},OuO r ts x nds->outer r ts f x nds=.sheet nds'->∃ps,ShtP r ts ps nds'
 | 0,x,nds,nds',o,h=>by unfold outer at h;cases h
 | f+1,x,nds,nds',o,h=>by
  unfold outer at h;by_cases c:nds.length<x.ps.length
  ·rw[Qt c]at h;have gp:=Sx.p_mem c
   cases e:cK r (x.p nds.length).2 (x.wy nds.length) (bU r ts (x.p nds.length)) x [] with
   | inl res =>
    rw[e]at h;dsimp only at h;rw[h]at e;exfalso;exact inner_ns e
   | inr q =>
   obtain⟨x',nd⟩:=q;rw[e]at h;dsimp only at h;exact ox ok wt (o.step ok wt gp e) h
  rw[Qr c]at h;cases h;have le:=o.le;have l:x.ps.length=nds.length:=by omega
  refine⟨x.ps,l,o.l40,o.zero,o.nd,o.ok,λi p hp=>(o.node i p (by have:=(Qe.mp hp).1;omega) hp).1,λp hp=>?_,λj p hj=>?_,o.met⟩
  ·obtain⟨i,hi⟩:=List.getElem?_of_mem hp;exact(o.node i p (by have:=(Qe.mp hi).1;omega) hi).2
  rcases o.from_ j p hj with h|⟨i,q,t,h1,_,h2⟩
  ·exact .inl h
  exact .inr ⟨i,q,t,h1,h2⟩
where
 inner_ns {r:Rg} {row:Str} {way:List Tu}:∀{ss:List Sp1} {x:Sx} {nd:Nd} {nds:List Nd},cK r row way ss x nd=.inl (.sheet nds)->False
 | [],x,nd,nds,h=>by unfold cK at h;cases h
 | s::ss,x,nd,nds,h=>by
  unfold cK at h
  cases co:fj r row s with
  | some w=>rw[co]at h;cases h
  | none =>
  rw[co]at h;dsimp only at h;by_cases c:s.2∈x.ps
  ·rw[Qt c]at h;exact inner_ns h
  rw[Qr c]at h;by_cases c40:x.ps.length=40
  ·rw[Qt c40]at h;cases h
  rw[Qr c40]at h;exact inner_ns h
theorem pd (ok:RgOk r) (wt:Wt r ts) (h:unf r ts=.sheet nds):∃ps,ShtP r ts ps nds:=by
 refine ox (x:=Sx.first r) (nds:=[]) ok wt ⟨QP _,(by decide:1<=40),rfl,QN.mpr ⟨by simp,.nil⟩,λp hp=>?_,λi p hi=>absurd hi (Nat.not_lt_zero _),λj p hj=>?_,rfl⟩ h
 ·cases QB.mp hp;exact r8 ok
 left
 have:=(Qe.mp hj).1;have:j<1:=this;omega
def gc (r:Rg) (nds:List Nd):Sh:=⟨r.ins,r.outs,r.z,nds⟩
theorem qK {nd:Nd} (h:j4 H l nd):bq H l (eN nd):=by
 obtain⟨vs,e,p⟩:=h;refine⟨vs,e,?_⟩;unfold eN;refine bL (ac (λv q ⟨b,e1,e2⟩=>⟨b,e1,e2⟩) p)
theorem pC (h:yh H0 H v r (.sheet nds)):∃a s li lo ln nas,v=.ref a/\H a=some (.tup [.str "sheet", .ref s])/\ShAt H s li lo ln nas (gc r nds)/\(li::lo::ln::nas).Nodup/\∀b∈li::lo::ln::nas,H0 b=none:=by
 obtain⟨a,s,li,lo,ln,nas,e,ha,hs,hi,ho,hn,pn,nd,new⟩:=h;exact⟨a,s,li,lo,ln,nas,e,ha,⟨hs,hi,ho,hn,ac (λ_ _ q=>qK q) pn⟩,nd,new⟩
section
variable {r:Rg} {ts:List Tu} {ps:List Pl} {nds:List Nd}
def sm (ps:List Pl) (i:Nat):Str:=(ps.getD i ([],Str.empty)).2
theorem fz {i:Nat} {p:Pl} (h:ps[i]?=some p):sm ps i=p.2:=by unfold sm;rw[Qy,h];rfl
theorem ShtP.nodeAt (S:ShtP r ts ps nds) {i:Nat} {p:Pl} (h:ps[i]?=some p):(gc r nds).node i=cx r ts ps p:=Sh.node_of (S.node i p h)
theorem ShtP.to_ (S:ShtP r ts ps nds) {p:Pl} (hp:p∈ps) {t:Tu} (ht:t∈ts) (hm:cq r.arcs p.1 t=true):ps[ps.idxOf (bQ r p t).2]?=some (bQ r p t).2:=by
 have m:=(S.mem p hp t ht hm).1;have hi:=QK m;rw[Qc hi];exact congrArg some (List.getElem_idxOf hi)
theorem ShtP.reach (S:ShtP r ts ps nds):∀i,i<ps.length->(gc r nds).R i:=by
 intro i
 induction i using Nat.strongRecOn with
 | ind i ih =>
 intro hi;rcases S.from_ i _ (Qc hi) with rfl|⟨k,q,t,hk,hq,ht,hm,e⟩
 ·exact Bf.Reach.start
 refine Bf.Reach.step (ih k hk (by omega)) ?_;show i∈((gc r nds).node k).map (·.2);rw[S.nodeAt hq];refine Qj.mpr ⟨(t.1,i),Qj.mpr ⟨t,QR.mpr ⟨ht,hm⟩,?_⟩,rfl⟩;rw[e,S.nd.idxOf_getElem i hi]
theorem ShtP.shok (S:ShtP r ts ps nds) (ok:RgOk r) (wt:Wt r ts):ShOk (gc r nds):=by
 have l40:=S.l40;have len:=S.len;have w5:=ok.w5;have z:=(Qe.mp S.zero).1
 have at_:∀node∈nds,∃p∈ps,node=cx r ts ps p:=λnode hn=>by
  obtain⟨i,hi⟩:=List.getElem?_of_mem hn;have il:=(Qe.mp hi).1;have e:=S.node i _ (Qc (by omega));rw[hi]at e;exact⟨_,Xb _,QJ e⟩
 refine⟨ok.nd,ok.w1,show r.ws.length<=11 by omega,ok.st,show 1<=nds.length by omega,show nds.length<=100 by omega,λnode hn q hq=>?_,λnode hn q hq=>?_,λnode hn=>?_⟩
 ·obtain⟨p,hp,rfl⟩:=at_ node hn;obtain⟨t,ht,rfl⟩:=Qj.mp hq;exact(Wt.ok ok wt (QR.mp ht).1).1
 ·obtain⟨p,hp,rfl⟩:=at_ node hn;obtain⟨t,ht,rfl⟩:=Qj.mp hq;obtain⟨ht,hm⟩:=QR.mp ht;show _<nds.length;rw[<-len];exact QK (S.mem p hp t ht hm).1
 obtain⟨p,hp,rfl⟩:=at_ node hn;unfold cx;rw[Qd];exact QG (XA _ _) (QG (Wt.few ok wt) (by decide))
theorem ShtP.lab (S:ShtP r ts ps nds) (ok:RgOk r) (wt:Wt r ts):Lab (gc r nds) (sm ps):=by
 refine⟨fz S.zero,λi hi q hq=>?_⟩;have il:i<nds.length:=Sh.R_lt (S.shok ok wt) hi;have len:=S.len;have gp:=Qc (l:=ps) (i:=i) (by omega);rw[S.nodeAt gp]at hq;obtain⟨t,ht,rfl⟩:=Qj.mp hq;obtain⟨ht,hm⟩:=QR.mp ht;rw[fz (S.to_ (Xb _) ht hm),fz gp];rfl
theorem gM {row:Str} {s:Sp1} (h:fj r row s=none):sgB row (r.ws.idxOf s.1.1)=!decide (s.1.2 = "+"):=by
 unfold fj at h
 split at h
 ·cases h
 next c =>
 cases a:sgB row (r.ws.idxOf s.1.1) <;> cases b:decide (s.1.2 = "+") <;> simp_all
theorem ShtP.names (S:ShtP r ts ps nds) (ok:RgOk r) (wt:Wt r ts) {p:Pl} (hp:p∈ps):((cx r ts ps p).map (·.1)).Nodup:=by
 unfold cx;rw[Q0];refine QY.mpr ?_;refine List.Pairwise.imp_of_mem ?_ (wt.nd.filter _);intro a b ha hb ne e;obtain⟨ha,ma⟩:=QR.mp ha;obtain⟨hb,mb⟩:=QR.mp hb;have e:a.1=b.1:=e;have oa:=gM (S.mem p hp a ha ma).2;have ob:=gM (S.mem p hp b hb mb).2;have oa:sgB p.2 (r.ws.idxOf a.1)=!decide (a.2 = "+"):=oa;have ob:sgB p.2 (r.ws.idxOf b.1)=!decide (b.2 = "+"):=ob;rw[e,ob]at oa
 apply ne
 refine Prod.ext e ?_;rcases(Wt.ok ok wt ha).2 with h1|h1 <;> rcases(Wt.ok ok wt hb).2 with h2|h2 <;> rw[h1,h2]at oa ⊢ <;> first|rfl|(exfalso;revert oa;decide +kernel)
end
def mo:Sp:=λvs H Q _=>∃(ml l tl:Addr) (as:List V) (r:Rg) (ms:List Int) (tv:List V) (ts:List Tu),vs=[.ref ml,.ref l,.ref tl]/\H ml=some (.lst (ms.map V.int))/\ArsA H l as r.arcs/\RgOk r/\MkOk r.arcs ms/\H tl=some (.lst tv)/\Paired (TuA H) tv ts/\ts.length<=10/\∀q qv H',ak H H'->H q=none->H' q=some (.lst qv)->Paired (TuA H') qv (ts.filter (cq r.arcs ms))->Q (.ref q) H'
def fI:Sp:=λvs H Q _=>∃(ml l ta:Addr) (as:List V) (r:Rg) (ms:List Int) (t:Tu),vs=[.ref ml,.ref l,.ref ta]/\H ml=some (.lst (ms.map V.int))/\ArsA H l as r.arcs/\RgOk r/\MkOk r.arcs ms/\TuA H (.ref ta) t/\∀q H',ak H H'->H q=none->H' q=some (.lst ((fS r.arcs ms t).map V.int))->Q (.ref q) H'
section
theorem mw:FnScope ["marks", "arcs", "turns", "found", "turn"] ["marks", "arcs", "turns"] (ax (top 27)):=by fin2
theorem uf {f:Addr} {fd:FuncData} (Fu:Fun K "_law_may" "_law_may" (top 27) f fd) (T:Txt K mg TT):FnOk P w K mg base CX0 2 f fd ["marks", "arcs", "turns"] mo:=by
 have S:=mw;refine Fu.ok S (by room) (λcdv A outer s H vs Q E hr h=>?_);obtain⟨ml,l,tl,as,r,ms,tv,ts,rfl,hml,at_,ok,mok,htl,pt,few,k⟩:=h;have hu:=cL hr;refine'⟨?_,?bb,?_⟩
 case bb =>
  walk_at "b";exact ay 3 S.nd (pe_lst ad);walk_at "f";exact(a_ (pv 2));exact(bv 4 S.nd);walk_at "p";exact(aD (mF hr.units) (gJ (tgs:=["mark", "arc"]) (cap:=[("turn", 4)]) rfl ⟨rfl,rfl,rfl,rfl,rfl,rfl⟩ (gk (by rfl) T.n_zip (aa (pv 0) (aa (pv 1) ad ae) ae)) (λ_ _ _ _=>(dD (K:=K) (n:=2) rfl rfl (aB (ba (i:=0) (show List.Nodup [("mark" : Str),("arc" : Str),("turn" : Str)] by decide +kernel) rfl (by z_go)) (aB (ba (i:=1) (show List.Nodup [("mark" : Str),("arc" : Str),("turn" : Str)] by decide +kernel) rfl (by z_go)) bI)))) (λ_ _ _ _=>(d4 (PW.pt (rf (aD (jB (K:=K) rfl hr.units) (aq (dG (K:=K) rfl) (pv 1) af) (pv 2) (aG _)) (on (aD dP (pv 0) af (aG _))))))) (λ_ _ _ _=>af)) (pe_lst ad) (aG _));exact(bH (bE Qz QV QW bj (pv 3) (aa (pv 4) ad ae)));exact(aU (pv 3))
 x_go;have arl:=ok.few;lk;refine⟨by simp[sizeLine],λF hF=>?_⟩;generalize hE:upd H F _=H1;obtain⟨S1,qF⟩:=aj hF hE;kt_k;lk;refine⟨tl,rfl,⟨_,SqL.of (S1 _ _ htl)⟩,?_⟩;let I19:IvF:=λi U H'=>∃y4 qv,U=[some (.ref ml),some (.ref l),some (.ref tl),some (.ref F),y4]/\ak H H'/\H' F=some (.lst qv)/\Paired (TuA H') qv ((ts.take i).filter (cq r.arcs ms));refine cZ (xs:=tv) I19 ⟨none,[],rfl,S1,qF,.nil⟩ (λi U H' _ ⟨_,_,_,S',_⟩=>SqL.of (S' _ _ htl)) (λi v U H' ev h=>?_) (λU H' h=>?_)
 ·obtain⟨y4,qv,rfl,S',hF',pq⟩:=h;obtain⟨t,et,tu⟩:=paired_get pt ev;have tu:=tu.kt (ak.tups S');obtain⟨ta,rfl,hta⟩:=id tu;have at2:=at_.same S';kt_k;lk;refine bS (bn (aH rfl (bn (aH rfl (bi ⟨ml,l,false,false,rfl,⟨_,SqL.of (S' _ _ hml)⟩,⟨_,SqL.of at2.h⟩,λD hD=>?_⟩)))));refine m_ (no0 t) (λH v p=>v=.int 1) hD (S' _ _ hml) at2.h (df ms) at2.p mok.len (by rw[mok.len];omega) (λH H' v x k h=>h) (λv m u a b G im ia mx S' hb GG N hG hN=>?_) (λG2 ys T2 hy py=>?_)
  ·obtain⟨c,v1,v2,rfl,hc,t1,t2⟩:=ia.kt (ak.tups S');cases im;refine⟨b,_,rfl,SqT.of hb,rfl,_,_,rfl,aw ⟨_,_,rfl,aw ⟨rfl,⟨rfl,trivial⟩,?_⟩⟩⟩;lk;refine dI t2 (tu.kt (ak.tups S')) ⟨_,rfl,?_⟩;unfold no0 at hG hN;dsimp only at hG hN;by_cases c1:a.two=t
   ·refine ifT (Qx c1) ?_;rw[Qx c1,Bool.true_and]at hG hN;lk;by_cases c2:m=0
    ·refine ifT (Qx (by rw[c2])) ?_;exact hG (Qx c2) _ G (ak.refl _) rfl
    exact ifF (Qv λz=>c2 (V.int.inj z)) (hN (Qv c2) G (ak.refl _))
   refine ifF (Qv c1) (iteF (hN (by rw[Qv c1];rfl) G (ak.refl _)))
  refine jy hy λG3 T3=>?_;rw[ao py,wv mok];have T13:=T2.trans T3;have tu3:=tu.kt (ak.tups T13);have hF3:=T13 _ _ hF';have S3:=S'.trans T13;have pq3:=ac (λ_ _ h=>TuA.kt (ak.tups T13) h) pq;have il:=(Qe.mp et).1;have etk:ts.take (i+1)=ts.take i++[t]:=by rw[List.take_succ,et];rfl
  cases may:cq r.arcs ms t
  ·refine iteF (s_next ⟨_,qv,rfl,S3,hF3,?_⟩);rw[etk,List.filter_append,List.filter_cons_of_neg (by rw[may];exact Qm),List.filter_nil,List.append_nil];exact pq3
  refine iteT ?_;have ql:=ao pq3;have ql2:=XA (cq r.arcs ms) (ts.take i);rw[QO]at ql2;lk;refine dQ hF3 (by omega) ?_;have kt:=bN (o:=.lst (qv++[.ref ta])) hF3;refine⟨_,_,rfl,ca S3 hF,ag,?_⟩;rw[etk,List.filter_append,List.filter_cons_of_pos may,List.filter_nil];exact aV (ac (λ_ _ h=>TuA.kt kt h) pq3) (tu3.kt kt)
 obtain⟨y4,qv,rfl,S',hF',pq⟩:=h;rw[Q4 (Nat.le_of_eq (ao pt).symm)]at pq;lk;exact k F qv H' S' hF hF' pq
theorem iq:FnScope ["marks", "arcs", "turn", "found", "mark", "arc"] ["marks", "arcs", "turn"] (ax (top 28)):=by fin2
theorem mG {f:Addr} {fd:FuncData} (Fu:Fun K "_law_behind" "_law_behind" (top 28) f fd) (T:Txt K mg TT):FnOk P w K mg base CX0 2 f fd ["marks", "arcs", "turn"] fI:=by
 have S:=iq;refine Fu.ok S (by room) (λcdv A outer s H vs Q E hr h=>?_);obtain⟨ml,l,ta,as,r,ms,t,rfl,hml,at_,ok,mok,tu,k⟩:=h;have hu:=cL hr;refine'⟨?_,?bb,?_⟩
 case bb =>
  walk_at "b";exact ay 3 S.nd (pe_lst ad);walk_at "f";exact(gk (by rfl) T.n_zip (aa (pv 0) (aa (pv 1) ad ae) ae));exact(d5 rfl (aB (bv 4 S.nd) (aB (bv 5 S.nd) bI)));walk_at "p";exact(bH (bE Qz QV QW bj (pv 3) (aa (aF fO (aF bV (pv 4) (be bY (by rfl) T.n_int XB (aa (cj (fR hr.units) (aq az (pv 5) af) (pv 2) (aG _)) ad))) (be bY (by rfl) T.n_int XB (aa (cj (fR hr.units) (aq az (pv 5) af) (pv 2) (aG _)) ad))) ad)));exact(aU (pv 3))
 x_go;have arl:=ok.few;lk;refine⟨by simp[sizeLine],λF hF=>?_⟩;generalize hE:upd H F _=H1;obtain⟨S1,qF⟩:=aj hF hE;have at1:=at_.same S1;kt_k;lk;refine bn (aH rfl (bn (aH rfl (bi ⟨ml,l,false,false,rfl,⟨_,SqL.of (S1 _ _ hml)⟩,⟨_,SqL.of at1.h⟩,?_⟩))));have arl2:=ao at_.p;let I20:IvF:=λj U H2=>∃y4 y5,U=[some (.ref ml),some (.ref l),some (.ref ta),some (.ref F),y4,y5]/\ak H H2/\H2 F=some (.lst ((((ms.zip r.arcs).take j).map (mkL t)).map V.int));refine sP (xs:=ms.map V.int) (us:=as) (by rw[Qd,mok.len,arl2];exact Qg _) I20 ⟨_,_,rfl,S1,qF⟩ (λj U H2 _ ⟨_,_,_,S2,_⟩=>⟨SqL.of (S2 _ _ hml),SqL.of ((at_.same S2).h)⟩) (λj x u U H2 TA e1 e2 h hT=>?_) (λU H2 h=>?_)
 ·obtain⟨y4,y5,rfl,S2,qM⟩:=h;rw[Qs]at e1;obtain⟨m',em,rfl⟩:=Xv.mp e1;generalize hE:upd H2 TA _=H4;obtain⟨S4,q4⟩:=aj hT hE;have S24:=S2.trans S4;obtain⟨ar,ear,ia⟩:=paired_get (at_.same S24).p e2;obtain⟨cb,v1,v2,rfl,hcb,t1,t2⟩:=ia;have qM4:=S4 _ _ qM;have tu4:=tu.kt (ak.tups S24);have jl:=(Qe.mp em).1;refine⟨TA,_,rfl,SqT.of q4,rfl,_,_,rfl,aw ⟨_,_,rfl,aw ⟨rfl,?_⟩⟩⟩;lk;refine dI t1 tu4 ?_;lk;refine dI t2 tu4 ?_;lk;refine dQ qM4 (by rw[Qd,Qd,QO,List.length_zip];have:=mok.len;omega) ?_;refine⟨_,_,rfl,ca S24 hF,?_⟩;rw[ag,List.take_succ,f8 em ear,Q3,Q3];rfl
 obtain⟨y4,y5,rfl,S2,qM⟩:=h;rw[Qd,Q4 (by rw[List.length_zip];exact Nat.min_le_left _ _),wu ok.arcs]at qM;lk;exact k F H2 S2 hF qM
end
theorem ArsA.kp (DA:D.At H) (k:Kp D H H') (h:ArsA H l vs as):ArsA H' l vs as :=
 ⟨k.refs DA h.h λx hx=>by obtain⟨a,_,b,_,_,e,_⟩:=bB h.p hx;exact⟨b,e⟩,ac (λ_ _ q=>q.kt (k.tups DA)) h.p⟩
theorem RgA.kp {r:Rg} (DA:D.At H) (k:Kp D H H') (h:RgA H a li lo l vs r):RgA H' a li lo l vs r:=⟨k.tups DA _ _ h.ha,k.strs DA h.hi,k.strs DA h.ho,h.arcs.kp DA k⟩
theorem kL (nas:A3):∀x∈nas.map V.ref,∃a,x=V.ref a:=λx hx=>by
 obtain⟨a,_,e⟩:=Qj.mp hx;exact⟨a,e.symm⟩
theorem bq.kp (DA:D.At H) (k:Kp D H H') (h:bq H a sts):bq H' a sts:=by
 obtain⟨vs,e,p⟩:=h;exact⟨vs,k.refs DA e (λx hx=>by obtain⟨s,_,b,e,_⟩:=bB p hx;exact⟨b,e⟩),ac (λv s ⟨b,e1,e2⟩=>⟨b,e1,k.tups DA _ _ e2⟩) p⟩
theorem ShAt.kp (DA:D.At H) (k:Kp D H H') (h:ShAt H a li lo ln nas s):ShAt H' a li lo ln nas s :=
 ⟨k.tups DA _ _ h.ha,k.strs DA h.hi,k.strs DA h.ho,k.refs DA h.hn (kL _),ac (λ_ _ st=>st.kp DA k) h.nodes⟩
theorem RgA.tk (tb:bT TL aW H) (k:Tk TL H H') (h:RgA H a li lo l vs r):RgA H' a li lo l vs r:=⟨k.tup tb _ _ h.ha,k.lst tb _ _ h.hi,k.lst tb _ _ h.ho,k.lst tb _ _ h.arcs.h,ac (λ_ _ q=>q.kt (k.tup tb)) h.arcs.p⟩
theorem ShAt.tk (tb:bT TL aW H) (k:Tk TL H H') (h:ShAt H a li lo ln nas s):ShAt H' a li lo ln nas s:=h.mono (k.lst tb) (k.tup tb)
theorem Dk.At.tk (tb:bT TL aW H) (k:Tk TL H H') (h:D.At H):D.At H':=let ⟨a,b,c,e,l⟩:=h;⟨a,b,c,k.lst tb _ _ e,l⟩
theorem u6 (tb:bT TL aW H) (DA:D.At H) (k:Kp D' H H') (e:D.d=D'.d):bT TL aW H':=by
 have no:∀{b o},H b=some o->(∀xs,o≠.lst xs)->¬D'.own b:=λ{b o} h n z=>cM DA h (λxs q=>absurd q (n xs)) (show b=D.d by rw[e];exact z);rcases tb with h|⟨c,h,q⟩
 ·exact .inl (k.old _ _ h (no h λ_ z=>nomatch z))
 exact .inr ⟨c,k.old _ _ h (no h λ_ z=>nomatch z),k.old _ _ q (no q λ_ z=>nomatch z)⟩
theorem jm {K:PySem.W.Frag} {xs:List V} (h:SqL K H a xs) (k:∀o,H a=some o->H' a=some o):SqL K H' a xs:=by
 rcases h with h|h
 ·left
  rcases h with e|⟨o,e⟩
  ·exact .inl (k _ e)
  exact .inr ⟨o,k _ e⟩
 exact .inr h
structure Kt (TL:Addr) (D:Dk) (H H':Hp):Prop where
 old:∀b o,H b=some o->¬D.own b->b≠TL->H' b=some o
 dk:D.At H'
 tab:bT TL aW H'
theorem Kt.of_tk (tb:bT TL aW H) (DA:D.At H) (k:Tk TL H H'):Kt TL D H H':=⟨λb o e _ n=>k.old b o e n,DA.tk tb k,k.tab⟩
theorem Kt.of_kp (tb:bT TL aW H) (DA:D.At H) (k:Kp D H H'):Kt TL D H H':=⟨λb o e n _=>k.old b o e n,k.dk,u6 tb DA k rfl⟩
theorem Kt.trans (a:Kt TL D H H1) (b:Kt TL D' H1 H2) (e:D.d=D'.d:=by rfl):Kt TL D' H H2:=⟨λc o h n t=>b.old c o (a.old c o h (by unfold Dk.own at n ⊢;rw[e];exact n) t) n t,b.dk,b.tab⟩
theorem Kt.le {D':Dk} (a:Kt TL D H H') (l:D.n<=D'.n) (e:D.d=D'.d:=by rfl):Kt TL D' H H':=⟨λc o h n=>a.old c o h (by unfold Dk.own at n ⊢;rw[e];exact n),a.dk.le l e,a.tab⟩
theorem Kt.tups {D:Dk} (DA:D.At H) (tb:bT TL aW H) (k:Kt TL D' H H') (e:D.d=D'.d:=by rfl):aY H H':=λb xs h=>k.old b _ h (λz=>cM DA h (λ_ z=>nomatch z) (by show b=D.d;rw[e];exact z)) (dq tb h λ_ z=>nomatch z)
theorem Kt.refs {xs:List V} (DA:D.At H) (tb:bT TL aW H) (k:Kt TL D' H H') (h:H l=some (.lst xs)) (hr:∀i:Int,V.int i∉xs) (e:D.d=D'.d:=by rfl):H' l=some (.lst xs):=k.old l _ h (λz=>cM DA h (λys q=>by cases q;exact hr) (by show l=D.d;rw[e];exact z)) (dq tb h λ_ z=>nomatch z)
theorem ArsA.ktt (DA:D.At H) (tb:bT TL aW H) (k:Kt TL D' H H') (h:ArsA H l vs as) (e:D.d=D'.d:=by rfl):ArsA H' l vs as :=
 ⟨k.refs DA tb h.h (cD λx hx=>by obtain⟨a,_,b,_,_,e,_⟩:=bB h.p hx;exact⟨b,e⟩) e,ac (λ_ _ q=>q.kt (k.tups DA tb e)) h.p⟩
theorem RgA.ktt (DA:D.At H) (tb:bT TL aW H) (k:Kt TL D' H H') (h:RgA H a li lo l vs r) (e:D.d=D'.d:=by rfl):RgA H' a li lo l vs r :=
 ⟨k.tups DA tb e _ _ h.ha,k.refs DA tb h.hi (cC _) e,k.refs DA tb h.ho (cC _) e,h.arcs.ktt DA tb k e⟩
theorem ShAt.ktt (DA:D.At H) (tb:bT TL aW H) (k:Kt TL D' H H') (h:ShAt H a li lo ln nas s) (e:D.d=D'.d:=by rfl):ShAt H' a li lo ln nas s :=
 ⟨k.tups DA tb e _ _ h.ha,k.refs DA tb h.hi (cC _) e,k.refs DA tb h.ho (cC _) e,k.refs DA tb h.hn (cD (kL _)) e,ac (fun na st q=>by
  obtain⟨vs,h1,p⟩:=q
  exact⟨vs,k.refs DA tb h1 (cD λx hx=>by obtain⟨s,_,b,e,_⟩:=bB p hx;exact⟨b,e⟩) e,ac (λv s ⟨b,e1,e2⟩=>⟨b,e1,k.tups DA tb e _ _ e2⟩) p⟩) h.nodes⟩
theorem fh {α β γ:Type} {F:α->γ->Prop} {f:β->γ}:∀{vs:List α} {hs:List β},Paired F vs (hs.map f)->Paired (λv p=>F v (f p)) vs hs
 | [],[],_=>.nil
 | [],_::_,h=>by rw[Qu]at h;cases h
 | _::_,[],h=>by rw[List.map_nil]at h;cases h
 | _::_,_::_,h=>by rw[Qu]at h;cases h with|cons r t=>exact .cons r (fh t)
theorem xj {nd:Nd} (p:Paired (λv (s:V × Key)=>∃b,v=.ref b/\H b=some (.tup [s.1,kV s.2])) vs (eN nd)):Paired (SgA H) vs nd :=
 ac (λv q ⟨b,e1,e2⟩=>⟨b,e1,e2⟩) (fh p)
theorem kY {nd:Nd} (p:Paired (SgA H) vs nd):Paired (qk H) vs (nd.map λp=>(p.1,V.int (p.2:Int))) :=
 bL (ac (λv q ⟨b,e1,e2⟩=>⟨b,e1,e2⟩) p)
theorem ShAt.nd {H:Hp} {a li lo ln:Addr} {nas:A3} {s:Sh} (h:ShAt H a li lo ln nas s) {i:Nat} {nd:Nd} (hi:s.nodes[i]?=some nd):∃na vs,(nas.map V.ref)[i]?=some (.ref na)/\H na=some (.lst vs)/\Paired (SgA H) vs nd:=by
 obtain⟨na,hna,vs,hv,pv⟩:=a9 h.nodes hi;exact⟨na,vs,by rw[Qs,hna];rfl,hv,xj pv⟩
theorem gG {k:Key}:∀{qs kvs:List (Key × V)},k∉qs.map (·.1)->aQ (cA kvs qs) k=aQ kvs k
 | [],kvs,_=>rfl
 | q::qs,kvs,h=>by
  rw[Qu,Qh,not_or]at h;show aQ (cA (bh kvs q.1 q.2) qs) k=_;rw[gG h.2,b9,Qr h.1]
theorem iM {k:Key} {v:V}:∀{qs kvs:List (Key × V)},(qs.map (·.1)).Nodup->(k,v)∈qs->aQ (cA kvs qs) k=some v
 | [],kvs,_,h=>by cases h
 | q::qs,kvs,n,h=>by
  rw[Qu,QN]at n;show aQ (cA (bh kvs q.1 q.2) qs) k=_;rcases Qh.mp h with rfl|h
  ·rw[gG n.1,b9,Qt rfl]
  exact iM n.2 h
theorem kX {nd:Nd} (n:(nd.map (·.1)).Nodup) (h:(x,i)∈nd):aQ (cA [] (eS (nd.map λp=>(p.1,V.int (p.2:Int))))) (Sum.inr x:Key)=some (.int (i:Int)):=by
 refine iM ?_ (Qj.mpr ⟨(x,.int i),Qj.mpr ⟨(x,i),h,rfl⟩,rfl⟩);unfold eS;rw[Q0,Q0];exact QY.mpr ((QY.mp n).imp λh e=>h (Sum.inr.inj e))
section
variable {K:PySem.W.Frag} {U:St} {H:Hp}
theorem lC {ta:TA} {Q:VK} (q:ta U H λvs H1=>∃l xs ps,vs=[.ref l]/\SqL K H1 l xs/\xs.length<10000/\Paired (qk H1) xs ps/\∀d,H1 d=none->Q (.ref d) (upd H1 d (.dK (cA [] (eS ps))))):nK K ta U H Q:=q
theorem uE {td ty tx:TE} {Q:VK} (q:td U H λx H1=>∃a,x=.ref a/\IsD H1 a/\ty U H1 λy H2=>tx U H2 λz H3=>∃o,cw H3 a y o/\Q (o.getD z) H3):qC td ty tx U H Q:=q
theorem oN {R:Bool->Hp->Prop} {i:Nat} {l:Addr} {xs:List V} (hi:U[i]?=some (some (.ref l))) (hl:H l=some (.lst xs)) (q:∀H',ak H H'->R (!decide (xs.length=0)) H'):qx (tOp (mB K true) (eI i) (qy jk)) U H R:=by
 refine i_test (i_op (aH hi (i_lst (bi ⟨by simp[sizeLine],λp hp=>?_⟩))));refine⟨l,p,xs,[],λ_=>true,rfl,rfl,SqL.of (aA hp _ _ hl),SqL.of ag,λj x y _ e=>by simp at e,_,rfl,?_⟩
 have e:(if true=true then !(xs.length==([]:List V).length&&(List.range xs.length).all λ_=>true) else (xs.length==([]:List V).length&&(List.range xs.length).all λ_=>true))=!decide (xs.length=0):=by
  rw[Qt rfl,Q7.mpr (λ_ _=>rfl),Bool.and_true];rfl
 rw[e];exact q _ (aA hp)
theorem sK {a b:Addr} {ns:List Str} {Q:VK} (h1:H a=some (.lst (ns.map V.str))) (h2:H b=some (.lst (ns.map V.str))) (q:Q (.bl false) H):mB K true (.ref a) (.ref b) H Q :=
 xW (SqL.of h1) (SqL.of h2) rfl (λj x y e1 e2=>by
  rw[e1]at e2;cases e2;obtain⟨z,_,e⟩:=Qj.mp (Qk e1)
  exact sV (by rw[<-e];rfl)) q
end
theorem u3 (ok:RgOk r) (full:u0 r) (ka':KsA H bs' ks') (pm:ks'.Perm ((bZ r.ws).map tk2)) (so:ks'.Pairwise leF):∃ts,Wt r ts/\Paired (TuA H) (bs'.map V.ref) ts:=by
 obtain⟨ts',e,pts⟩:=sw ka' λk hk=>by obtain⟨t,_,e⟩:=Qj.mp (pm.mem_iff.mp hk);exact⟨t,e.symm⟩
 subst e;refine⟨ts',⟨?_,λx=>?_,(QY.mp so).imp λh=>h⟩,pts⟩
 ·have nd:((bZ r.ws).map tk2).Nodup:=QY.mpr ((lU ok.nd).imp λh e=>h (dC e));exact(QY.mp (pm.nodup_iff.mpr nd)).imp λh e=>h (by rw[e])
 have e:x∈ts'↔x∈bZ r.ws:=by
  constructor
  ·intro h;obtain⟨y,hy,e⟩:=Qj.mp (pm.mem_iff.mp (Qj.mpr ⟨x,h,rfl⟩));rw[<-dC e];exact hy
  intro h;obtain⟨y,hy,e⟩:=Qj.mp (pm.mem_iff.mpr (Qj.mpr ⟨x,h,rfl⟩));rw[<-dC e];exact hy
 rw[e,cR];exact⟨full x,λ⟨a,ha,e⟩=>e▸(ok.arcs a ha).t⟩
theorem uI {t:Str} (h:sgB row i=!decide (t = "+")) {d:Nat} (e:V.str ⟨#[d]⟩=sg (decide (t = "+"))):(⟨#[d]⟩:Str)=cr row i:=by
 unfold cr;unfold sgB at h;rw[h];unfold sg at e;cases c:decide (t = "+") <;> rw[c]at e <;> exact V.str.inj e
def qm (ps:List Pl) (kvs:List (av × V)):Prop:=∀p v,aQ kvs (tkP p)=some v->∃i:Nat,v=.int (i:Int)/\ps[i]?=some p
theorem qm.put {p:Pl} (h:qm ps kvs) (hi:ps[i]?=some p):qm ps (bh kvs (tkP p) (.int (i:Int))):=λq v e=>by
 rw[b9]at e;by_cases c:tkP q=tkP p
 ·rw[Qt c]at e;cases e;exact⟨i,rfl,by rw[jj c];exact hi⟩
 rw[Qr c]at e;exact h q v e
theorem kW [DecidableEq α] {xs:List α} (nd:xs.Nodup) {x:α} (h1:xs[i]?=some x) (h2:xs[j]?=some x):i=j:=by
 obtain⟨l1,e1⟩:=Qe.mp h1;obtain⟨l2,e2⟩:=Qe.mp h2;have a:=nd.idxOf_getElem i l1;have b:=nd.idxOf_getElem j l2;rw[e1]at a;rw[e2]at b;exact a.symm.trans b
theorem qm.get {p:Pl} {i:Nat} (h:qm ps kvs) (nd:ps.Nodup) (hi:ps[i]?=some p):((aQ kvs (tkP p)).getD (.int (i:Int)))=.int (i:Int):=by
 cases e:aQ kvs (tkP p) with
 | none=>rfl
 | some v =>
 obtain⟨j,rfl,hj⟩:=h p v e;rw[kW nd hi hj];rfl
def nW (TL:Addr):Sp:=λvs H Q _=>∃(D:Dk) (a li lo l:Addr) (as:List V) (r:Rg) (s sli slo sln:Addr) (nas:A3) (ts:List Tu) (ps:List Pl) (nds:List Nd) (m:Nat),vs=[.ref D.d,.ref a,.ref s,.int (m:Int)]/\D.At H/\D.n<50000/\RgA H a li lo l as r/\RgOk r/\u0 r/\ShAt H s sli slo sln nas (gc r nds)/\ShtP r ts ps nds/\Wt r ts/\bT TL aW H/\m<=40/\∀H',Kt TL (D.more 40) H H'->Q (.bl true) H'
section
theorem kD:FnScope ["pool", "ring", "sheet", "many", "inputs", "outputs", "first", "arcs", "wires", "turns", "signs", "marks", "here", "node", "known", "step", "may", "names", "turn", "at"] ["pool", "ring", "sheet", "many"] (ax (top 29)):=by fin2
theorem rT {TL:Addr} {f:Addr} {fd:FuncData} (Fu:Fun K "_law_walk" "_law_walk" (top 29) f fd) (T:Txt K mg TT) (f_signs_of:Fn P w K mg base "signs_of" ["sheet"] 4 (nQ TL)) (f_law_may:Fn P w K mg base "_law_may" ["marks", "arcs", "turns"] 2 mo) (f_law_behind:Fn P w K mg base "_law_behind" ["marks", "arcs", "turn"] 2 fI) (f_law_take:Fn P w K mg base "_law_take" ["pool", "many"] 1 dU):FnOk P w K mg base CX0 5 f fd ["pool", "ring", "sheet", "many"] (nW TL):=by
 have S:=kD;refine Fu.ok S (by room) (λcdv A outer s H vs Q E hr h=>?_);obtain⟨D,a,li,lo,l,as,r,s,sli,slo,sln,nas,ts,ps,nds,m,rfl,DA,dn,at_,ok,full,sa,sp,wt,tb,hm,k⟩:=h;have hu:=cL hr;have ha:=at_.ha;refine'⟨?_,?bb,?_⟩
 case bb =>
  walk_at "b";exact(jz (pv 1) (d5 rfl (aB (bv 4 S.nd) (aB (bv 5 S.nd) (aB (bv 6 S.nd) (aB (bv 7 S.nd) bI))))));exact ay 8 S.nd (aF dm (pv 4) (pv 5));exact ay 9 S.nd (aM (dJ rfl hu) (by rfl) T.n_sorted PyProof.Rows.boot_sorted (aa (aF dm (eM "name" [] (a_ (pv 8)) (λ_ _ _ _=>(pe_tup (aa (pv 0) (aa bc ad aL) ae)))) (eM "name" [] (a_ (pv 8)) (λ_ _ _ _=>(pe_tup (aa (pv 0) (aa bc ad aL) ae))))) ad));exact ay 10 S.nd (aP f_signs_of hr (aa (pv 2) ad ae));exact(kN (j:=11) S.nd rfl (by z_go) (tgs:=["one", "other", "mark"]) (cap:=[]) rfl ⟨rfl,rfl,rfl,rfl,rfl,rfl⟩ (a_ (pv 7)) (λ_ _ _ _=>(dD (K:=K) (n:=3) rfl rfl (aB (ba (i:=0) (show List.Nodup [("one" : Str),("other" : Str),("mark" : Str)] by decide +kernel) rfl (by z_go)) (aB (ba (i:=1) (show List.Nodup [("one" : Str),("other" : Str),("mark" : Str)] by decide +kernel) rfl (by z_go)) (aB (ba (i:=2) (show List.Nodup [("one" : Str),("other" : Str),("mark" : Str)] by decide +kernel) rfl (by z_go)) bI))))) (λ_ _ _ _=>cW) (λ_ _ _ _=>(pv 2)));exact ay 12 S.nd (pv 6);exact ay 13 S.nd af;exact ay 14 S.nd kR;walk_at "f";exact(cB (by rfl) T.n_range (aa (pv 3) ad ae));exact(bv 15 S.nd);walk_at "p";exact ay 16 S.nd (aP f_law_may hr (aa (pv 11) (aa (pv 7) (aa (pv 9) ad ae) ae) ae));exact(kN (j:=17) S.nd rfl (by z_go) (tgs:=["name", "way"]) (cap:=[]) rfl ⟨rfl,rfl,rfl,rfl,rfl,rfl⟩ (a_ (pv 16)) (λ_ _ _ _=>(dD (K:=K) (n:=2) rfl rfl (aB (ba (i:=0) (show List.Nodup [("name" : Str),("way" : Str)] by decide +kernel) rfl (by z_go)) (aB (ba (i:=1) (show List.Nodup [("name" : Str),("way" : Str)] by decide +kernel) rfl (by z_go)) bI)))) (λ_ _ _ _=>cW) (λ_ _ _ _=>(pv 0)));exact(aD (fP hr.units) (pv 17) (gJ (tgs:=["name", "to"]) (cap:=[]) rfl ⟨rfl,rfl,rfl,rfl,rfl,rfl⟩ (a_ (aq aN (aq az (pv 2) af) (pv 13))) (λ_ _ _ _=>(dD (K:=K) (n:=2) rfl rfl (aB (ba (i:=0) (show List.Nodup [("name" : Str),("to" : Str)] by decide +kernel) rfl (by z_go)) (aB (ba (i:=1) (show List.Nodup [("name" : Str),("to" : Str)] by decide +kernel) rfl (by z_go)) bI)))) (λ_ _ _ _=>cW) (λ_ _ _ _=>(pv 0))) (aG _));exact(aU fg);exact(aD rM (aq aN (pv 10) (pv 13)) (pv 12) (aG _));exact(aU fg);exact(aD rM (rG hu (pv 14) (pe_tup (aa (be cI (by rfl) T.n_tuple PyProof.Rows.boot_tuple (aa (pv 11) ad ae)) (aa (pv 12) ad ae) aZ)) (pv 13) ⟨rfl,rfl,rfl,rfl⟩) (pv 13) (aG _));exact(aU fg);exact(db hu (pv 14) (pe_tup (aa (be cI (by rfl) T.n_tuple PyProof.Rows.boot_tuple (aa (pv 11) ad ae)) (aa (pv 12) ad ae) aZ)) (pv 13) rfl);exact(aD (fP hr.units) (pv 16) (pe_lst ad) (aG _));exact ay 18 S.nd (aq aN (pv 16) (aP f_law_take hr (aa (pv 0) (aa (aM aK (by rfl) T.n_len Xa (aa (pv 16) ad ae)) ad aZ) ae)));exact ay 19 S.nd (bE Qz Xc Xd fk (pv 8) (aa (aq az (pv 18) af) ad));exact ay 11 S.nd (aP f_law_behind hr (aa (pv 11) (aa (pv 7) (aa (pv 18) ad ae) ae) ae));exact ay 12 S.nd (aF bM (aF bM (cg eX (pv 12) cO (cN (pv 19))) (aq dH bc (be bY (by rfl) T.n_int XB (aa (cj dP (aq az (pv 18) af) bc (aG _)) ad)))) (cg eX (pv 12) (cN (aF bV (pv 19) af)) cO));exact ay 13 S.nd (de hu (iP rfl (by rfl) T.n_dict (aa (aq aN (aq az (pv 2) af) (pv 13)) ad)) (aq az (pv 18) af));exact(aU fg)
 x_go;have w5:=ok.w5;have arl:=ok.few;have lw:(r.ins.map V.str).length+(r.outs.map V.str).length=r.ws.length:=by rw[Qd,Qd];unfold Rg.ws;rw[Qn]
 lk;refine⟨a,_,rfl,SqT.of ha,rfl,_,_,rfl,aw ⟨_,_,rfl,aw ⟨_,_,rfl,aw ⟨_,_,rfl,aw ⟨rfl,?_⟩⟩⟩⟩⟩;lk;refine f9 at_.hi at_.ho (by rw[lw];omega) λwl hwl=>?_;rw[<-Q3];generalize hE:upd H wl _=H1;obtain⟨S1,qwl⟩:=aj hwl hE;kt_k;kt_k;with_reducible refine s_asg ?_
 refine i_cb (bn (jP rfl qwl (show r.ws.length<=1000 by omega) λtl tv H2 S2 htl qtl pt=>bi ?_));obtain⟨bs,e,ka⟩:=l9 pt;subst e;have atl:=fZ r.ws;refine⟨tl,_,true,rfl,.inl ⟨bs,SqL.of qtl,ka⟩,jp _,by rw[Qd,show (bZ (r.ins++r.outs)).length=2*r.ws.length from atl];omega,λtq bs' ks' htq ka' pm so=>?_⟩;obtain⟨ts',wt',pts⟩:=u3 ok full ka' pm so;obtain rfl:ts'=ts:=wt'.one wt λ_=>Iff.rfl;generalize bs'.map V.ref=tqv at pts;generalize hE:upd H2 tq _=H3;obtain⟨S3,qtq⟩:=aj htq hE;have pts:=ac (λ_ _ h=>TuA.kt (ak.tups S3) h) pts;have SH3:=(S1.trans S2).trans S3;have qwl3:=S3 _ _ (S2 _ _ qwl);have tb3:=eC tb SH3;have DA3:=DA.same SH3;clear so pm ka' ka hE S1 S2 S3 qwl;kt_k;lk;have shok:=sp.shok ok wt;have lab:=sp.lab ok wt;refine⟨s,sli,slo,sln,nas,gc r nds,rfl,sa.same SH3,shok,tb3,λsl us H4 tk4 hsl qsl sg=>?_⟩;have at4:=(at_.same SH3).tk tb3 tk4;have sa4:=(sa.same SH3).tk tb3 tk4;have DA4:=DA3.tk tb3 tk4;have tb4:=tk4.tab;have qwl4:=tk4.lst tb3 _ _ qwl3;have qtq4:=tk4.lst tb3 _ _ qtq;have pts4:=ac (λ_ _ h=>TuA.kt (tk4.tup tb3) h) pts;have kt4:Kt TL D H H4:=(Kt.of_kp tb DA (Kp.of DA SH3)).trans (Kt.of_tk tb3 DA3 tk4);clear tk4 DA3 tb3 qtq qwl3 hsl
 have usn:∀i:Int,V.int i∉us:=λi hi=>by
  obtain⟨j,hj⟩:=List.getElem?_of_mem hi;have hl:=(Qe.mp hj).1;rw[sg.len]at hl;obtain⟨y,e,_⟩:=sg.row j (sp.reach j (by rw[sp.len];exact hl));rw[hj]at e;cases e
 lk;refine bS (s_list (aH rfl ⟨l,rfl,⟨_,SqL.of at4.arcs.h⟩,λm0 hm0=>?_⟩));refine cP (λ_=>true) (λH v (a:Arc)=>v=.int a.mark) hm0 at4.arcs.h at4.arcs.p (QG ok.few (by decide)) (λH H' v x k h=>h) (λv x H' ia mx S' G N hG _=>?_) (λH5 ys S5 hy py=>?_)
 ·obtain⟨b,v1,v2,rfl,hb,t1,t2⟩:=ia.kt (ak.tups S');refine⟨b,_,rfl,SqT.of hb,rfl,_,_,rfl,aw ⟨_,_,rfl,aw ⟨_,_,rfl,aw ⟨rfl,trivial,i_yes (iteT ?_)⟩⟩⟩⟩;lk;exact hG rfl _ H' (ak.refl _) rfl
 rw[bO]at py;have e:ys=(mks r.arcs).map V.int:=by rw[bW py];unfold mks;rw[Q0];rfl
 subst e;lk;refine λLk hLk=>?_;generalize hE:upd H5 Lk _=H6;obtain⟨S6,qLk⟩:=aj hLk hE;have S46:=S5.trans S6;have Lk4:=bx S5 hLk;have qm6:=S6 _ _ hy;have m0D:m0≠D.d:=λz=>by obtain⟨_,_,_,e,_⟩:=DA4;rw[<-z,hm0]at e;cases e
 clear hE hy py S5;kt_k;lk;refine⟨by omega,by omega,?_⟩;rw[QX];let I21:IvF:=λi U H'=>∃(p:Pl) (mb:Addr) (ni:Nat) (kvs:List (av × V)) (y15 y16 y17 y18 y19:Option V),U=[some (.ref D.d),some (.ref a),some (.ref s),some (.int (m:Int)),some (.ref li),some (.ref lo),some (.str r.z),some (.ref l),some (.ref wl),some (.ref tq),some (.ref sl),some (.ref mb),some (.str p.2),some (.int (ni:Int)),some (.ref Lk),y15,y16,y17,y18,y19]/\Kp (D.more i) H4 H'/\ps[ni]?=some p/\H' mb=some (.lst (p.1.map V.int))/\mb≠D.d/\H' Lk=some (.dT kvs)/\kvs.length<=i/\qm ps kvs;refine dw (n:=m) I21 ⟨(mks r.arcs,r.z),m0,0,[],none,none,none,none,none,rfl,(Kp.of DA4 S46).le (Qg _),sp.zero,qm6,m0D,qLk,Qg _,λp v e=>nomatch e⟩ (λi U H' hi pv=>?_) (λU H' pv=>?_)
 ·obtain⟨p,mb,ni,kvs,y15,y16,y17,y18,y19,rfl,kp,gp,hmb,mbD,hLk',kl,kn⟩:=pv;have DAi:(D.more i).At H4:=DA4.le (QI _ _);have at':=at4.kp DAi kp;have sa':=sa4.kp DAi kp;have pm:=Qk gp;have po:=sp.ok p pm;have few:=Wt.few ok wt;have htq':=kp.refs DAi qtq4 (gv pts4);have pts':=ac (λ_ _ h=>TuA.kt (kp.tups DAi) h) pts4;have hsl':=kp.old _ _ qsl (cM DAi qsl λxs e=>by cases e;exact usn);have hwl':=kp.strs DAi qwl4;have DA':=kp.dk;kt_k;lk;refine⟨mb,l,tq,as,r,p.1,tqv,ts',rfl,hmb,at'.arcs,ok,po.m,htq',pts',few,λq qv G1 T1 hq0 hq pq=>?_⟩;have fl:=ao pq;have fl2:=XA (cq r.arcs p.1) ts';lk;refine bS (s_list (aH rfl ⟨q,rfl,⟨_,SqL.of hq⟩,λL1 hL1=>?_⟩));refine cP (λ_=>true) (λH v (t:Tu)=>v=.str t.1) hL1 hq pq (by omega) (λH H' v x k h=>h) (λv t G it mt S' GG N hG _=>?_) (λG2 ys T2 hy py=>?_)
  ·obtain⟨b,rfl,hb⟩:=it.kt (ak.tups S');refine⟨b,_,rfl,SqT.of hb,rfl,_,_,rfl,aw ⟨_,_,rfl,aw ⟨rfl,trivial,i_yes (iteT ?_)⟩⟩⟩;lk;exact hG rfl _ G (ak.refl _) rfl
  rw[bO]at py;have e:ys=((ts'.filter (cq r.arcs p.1)).map (·.1)).map V.str:=by rw[bW py,Q0];rfl
  subst e;have T12:=T1.trans T2;have sa2:=sa'.same T12;have nodeq:=sp.node ni p gp;obtain⟨na,nvs,hna,hnv,pn⟩:=sa2.nd (show (gc r nds).nodes[ni]?=_ from nodeq);have pnl:=ao pn;have pnl2:(cx r ts' ps p).length<=10:=by unfold cx;rw[Qd];omega
  have hs2:=sa2.ha;lk;refine bS ?_;lk;refine bF (SqL.of sa2.hn) (bA hna) ?_;refine⟨na,rfl,⟨_,SqL.of hnv⟩,λL2' hL2=>?_⟩;refine cP (λ_=>true) (λH v (t:Str × Nat)=>v=.str t.1) hL2 hnv pn (by omega) (λH H' v x k h=>h) (λv t G it mt S' GG N hG _=>?_) (λG3 ys T3 hy3 py3=>?_)
  ·obtain⟨b,rfl,hb⟩:=it.kt (ak.tups S');refine⟨b,_,rfl,SqT.of hb,rfl,_,_,rfl,aw ⟨_,_,rfl,aw ⟨rfl,trivial,i_yes (iteT ?_)⟩⟩⟩;lk;exact hG rfl _ G (ak.refl _) rfl
  rw[bO]at py3;have e:ys=((ts'.filter (cq r.arcs p.1)).map (·.1)).map V.str:=by rw[bW py3];unfold cx;rw[Q0,Q0];rfl
  subst e;refine sK (T3 _ _ hy) hy3 ?_;refine⟨_,rfl,ifF rfl ?_⟩;have T13:=T12.trans T3;have hsl3:=T13 _ _ hsl';obtain⟨y,hy0,_,ly⟩:=sg.row ni (sp.reach ni (Qe.mp gp).1);have ey:y=p.2:=(ly _ lab).symm.trans (fz gp);subst ey;lk;refine bF (SqL.of hsl3) (bA hy0) ?_;lk;refine ifF (by simp) ?_;have hmb3:=T13 _ _ hmb;have hLk3:=T13 _ _ hLk';lk;refine uE ?_;lk;refine⟨Lk,rfl,.inr ⟨_,.inl hLk3⟩,?_⟩;lk;refine⟨mb,_,rfl,.inl ⟨SqL.of hmb3,λt1 ht1=>?_⟩⟩;generalize hE:upd G3 t1 _=G4;obtain⟨T4,qt1⟩:=aj ht1 hE;lk;refine⟨by simp[sizeLine],λk1 hk1=>?_⟩;generalize hE:upd G4 k1 _=G5;obtain⟨T5,qk1⟩:=aj hk1 hE;have T45:=T4.trans T5;have T15:=T13.trans T45;have hLk5:=T45 _ _ hLk3;have hmb5:=T45 _ _ hmb3;have pk1:PlA G5 (.ref k1) p:=⟨k1,t1,rfl,qk1,T5 _ _ qt1⟩;lk;refine⟨_,cw.t hLk5 pk1.tk,?_⟩;rw[kn.get sp.nd gp];lk;refine ifF (by simp) ?_;kt_k;kt_k;refine dX ?_;lk;refine⟨mb,_,rfl,.inl ⟨SqL.of hmb5,λt2 ht2=>?_⟩⟩;generalize hE:upd G5 t2 _=G6;obtain⟨T6,qt2⟩:=aj ht2 hE;lk;refine⟨by simp[sizeLine],λk2 hk2=>?_⟩;generalize hE:upd G6 k2 _=G7;obtain⟨T7,qk2⟩:=aj hk2 hE;have T67:=T6.trans T7;have hLk7:=T67 _ _ hLk5;have pk2:PlA G7 (.ref k2) p:=⟨k2,t2,rfl,qk2,T7 _ _ qt2⟩;refine⟨Lk,_,rfl,fb.t hLk7 pk2.tk (by omega),?_⟩;generalize hE8:upd G7 Lk _=G8;have kp7:Kp (D.more i) H4 G7:=kp.trans (Kp.of DA' (T15.trans T67));have kp8:Kp (D.more i) H4 G8:=by rw[<-hE8];exact kp7.fresh DAi Lk4
  have kb:∀b o,G7 b=some o->b≠Lk->G8 b=some o:=λb o e z=>by rw[<-hE8,ah z];exact e
  have kt78:aY G7 G8:=by rw[<-hE8];exact cY hLk7
  have T27:=(T2.trans T3).trans (T45.trans T67);have hq8:=kb _ _ (T27 _ _ hq) (λz=>by rw[<-z,T27 _ _ hq]at hLk7;cases hLk7);have hmb8:=kb _ _ (T67 _ _ hmb5) (λz=>by rw[<-z,T67 _ _ hmb5]at hLk7;cases hLk7);have pq8:=ac (λ_ _ h=>TuA.kt kt78 (TuA.kt (ak.tups T27) h)) pq;have hLk8:G8 Lk=some (.dT (bh kvs (tkP p) (.int (ni:Int)))):=by rw[<-hE8];exact ag
  have kl8:(bh kvs (tkP p) (.int (ni:Int))).length<=i+1:=QG (bC _ _ _) (Nat.succ_le_succ kl);have kn8:=kn.put gp;generalize bh kvs (tkP p) (.int (ni:Int))=kvs8 at hLk8 kl8 kn8;clear hE8 kp7 kb kt78 hy py hy3 py3 hLk7 hLk5 hLk3 pk1 pk2 qk1 qk2 qt1 qt2 T4 T5 T6 T7 T45 T67 T15 kp hmb3 hmb5 hmb sa2 hs2 hna hnv hsl3 hsl' T13 T12 T27 T3 hE;refine s_if (oN rfl hq8 λG9 T9=>?_);have kp9:=kp8.trans (Kp.of kp8.dk T9);by_cases c0:qv.length=0
  ·refine ifF (by rw[Qx c0];rfl) (s_next ⟨p,mb,ni,kvs8,_,_,_,_,_,rfl,kp9.le (XN _),gp,T9 _ _ hmb8,mbD,T9 _ _ hLk8,kl8,kn8⟩)
  refine ifT (by rw[Qv c0];rfl) ?_;have hq9:=T9 _ _ hq8;have pq9:=ac (λ_ _ h=>TuA.kt (ak.tups T9) h) pq8;lk;refine⟨D.more i,_,rfl,kp9.dk,(by show D.n+i<100000;omega),by omega,by omega,λrr Ha h0 h1 ka=>?_⟩;have kpa:Kp (D.more (i+1)) H4 Ha:=kp9.trans ka;have DAa:(D.more (i+1)).At H4:=DA4.le (QI _ _);have hqa:=ka.old _ _ hq9 (cM (D:=D.more i) kp9.dk hq9 λxs e=>by cases e;exact cD (gv pq9));have pqa:=ac (λ_ _ h=>TuA.kt (ka.tups (kp9.dk.le (D':=(D.more i).more 1) (XN _))) h) pq9;have hmba:=ka.old _ _ (T9 _ _ hmb8) mbD;have hLka:=ka.old _ _ (T9 _ _ hLk8) (cM (D:=D.more i) kp9.dk (T9 _ _ hLk8) λxs e=>nomatch e);have ata:=at4.kp DAa kpa;have saa:=sa4.kp DAa kpa;have hwla:=kpa.strs DAa qwl4;obtain⟨v,ev,mv⟩:=gt (xs:=qv) (i:=rr) (by omega) h1;obtain⟨t,mt,tu⟩:=bB pqa mv;obtain⟨mt,may⟩:=QR.mp mt;obtain⟨ta,rfl,hta⟩:=id tu;have tok:=Wt.ok ok wt mt;have xl:=QK tok.1;have od:=gM (sp.mem p pm t mt may).2;have od:sgB p.2 (r.ws.idxOf t.1)=!decide (t.2 = "+"):=od;clear hq8 hq9 pq8 pq9 hmb8 hLk8 kp8 kp9 ka hq pq;lk;refine bF (SqL.of hqa) ev ?_;lk;refine⟨wl,r.ws,t.1,r.ws.idxOf t.1,rfl,rfl,hwla,fW tok.1,eF,by omega,?_⟩;lk;refine⟨mb,l,ta,as,r,p.1,t,rfl,hmba,ata.arcs,ok,po.m,tu,λmb' Hb Tb hn0 hmb'=>?_⟩;have htab:=Tb _ _ hta;lk;have hz:=po.z.len;have s1:=Txt.slice_le p.2 none (some ((r.ws.idxOf t.1:Nat):Int));have s2:=Txt.slice_le p.2 (some (((r.ws.idxOf t.1:Nat):Int)+1)) none;have zl:p.2.length=r.ws.length:=hz
  have fl':(cr p.2 (r.ws.idxOf t.1)).length=1:=by
   unfold cr
   split
   ·decide +kernel
   decide +kernel
  have l1:(Txt.slice p.2 none (some ((r.ws.idxOf t.1:Nat):Int))++cr p.2 (r.ws.idxOf t.1)).length=(Txt.slice p.2 none (some ((r.ws.idxOf t.1:Nat):Int))).length+(cr p.2 (r.ws.idxOf t.1)).length:=Array.size_append;refine gX (by omega) ?_;lk;obtain⟨d,ed,ed2⟩:=ye (decide (V.str t.2=V.str "+"));refine fD (by decide) ed ?_;rw[show decide (V.str t.2=V.str "+")=decide (t.2 = "+") from XT.mpr ⟨λh=>V.str.inj h,λh=>by rw[h]⟩]at ed2;rw[uI od ed2];refine⟨_,_,rfl,rfl,by omega,?_⟩;lk;refine gX (by omega) ?_;refine⟨_,_,rfl,rfl,by rw[l1];omega,?_⟩;have sab:=saa.same Tb;have hsb:=sab.ha;obtain⟨na,nvs,hna,hnv,pn⟩:=sab.nd (show (gc r nds).nodes[ni]?=_ from nodeq);have pnl:=ao pn;lk;refine i_dget (lC ?_);lk;refine bF (SqL.of sab.hn) (bA hna) ?_;refine bi ⟨na,nvs,_,rfl,SqL.of hnv,by omega,kY pn,λd hd=>?_⟩;generalize hE:upd Hb d _=Hc;obtain⟨Tc,qd⟩:=aj hd hE;have htac:=Tc _ _ htab;lk;refine⟨d,_,rfl,by have z:=cw.k (k:=Sum.inr t.1) qd;rw[kX (sp.names ok wt pm) (Qj.mpr ⟨t,QR.mpr ⟨mt,may⟩,rfl⟩)]at z;exact z,?_⟩;have Tbc:=Tb.trans Tc;exact⟨(bQ r p t).2,mb',ps.idxOf (bQ r p t).2,kvs8,_,_,_,_,_,rfl,kpa.trans (Kp.of kpa.dk Tbc),sp.to_ pm mt may,Tc _ _ hmb',aJ (D:=D.more (i+1)) kpa.dk hn0,Tbc _ _ hLka,kl8,kn8⟩
 obtain⟨p,mb,ni,kvs,y15,y16,y17,y18,y19,rfl,kp,_⟩:=pv;lk;exact k H' (kt4.trans (Kt.of_kp tb4 (DA4.le (D':=D.more 40) (QI _ _)) ((kp.le (D':=D.more 40) (by show D.n+m<=D.n+40;omega)))))
end
structure RdOk (r:Rg) (d:List Tu) (p:Pl):Prop where
 len:p.1.length=r.arcs.length
 m:∀(i:Nat) (a:Arc),r.arcs[i]?=some a->p.1[i]?=some (a.mark+(if a.one∈d then 1 else 0)-(if a.two∈d then 1 else 0))
 st:StOk r.ws.length p.2
 s:∀x∈r.ws,sgB p.2 (r.ws.idxOf x)=xor (sgB r.z (r.ws.idxOf x)) (xor (decide (((x, "+"):Tu)∈d)) (decide (((x, "-"):Tu)∈d)))
theorem qZ (ok:RgOk r):RdOk r [] (mks r.arcs,r.z):=by
 refine⟨Qd ..,λi a h=>?_,ok.st,λx hx=>?_⟩
 ·show (mks r.arcs)[i]?=_;unfold mks;rw[Qs,h];simp
 simp
theorem qS (st:StOk n z) (hi:i<n) (hj:j<n):sgB (c_ z i) j=if j=i then !sgB z j else sgB z j:=by
 have hl:=st.len;have e:=turn_list st hi;have g:∀(w:Str) k,w.cps.getD k 0=w.cps.toList.getD k 0:=λw k=>by simp[Xh,Qy]
 unfold sgB;rw[g (c_ z i),g z,e];have zl:z.cps.toList.length=n:=by simpa using hl
 by_cases c:j=i
 ·subst c;rw[Qt rfl,Qy,QQ (by rw[QO];omega),QO,Nat.min_eq_left (by omega),Nat.sub_self,List.getElem?_cons_zero,Option.getD_some,g z];cases q:(z.cps.toList.getD j 0==49) <;> rfl
 rw[Qr c];by_cases l:j<i
 ·rw[Qy,QM (by rw[QO];omega),List.getElem?_take_of_lt l,<-Qy]
 rw[Qy,QQ (by rw[QO];omega),QO,Nat.min_eq_left (by omega)];obtain⟨k,hk⟩:∃k,j-i=k+1:=⟨j-i-1,by omega⟩;rw[hk,List.getElem?_cons_succ,List.getElem?_drop,show i+1+k=j by omega,<-Qy]
theorem uC {ws:List Str} {y:Str} (hx:x∈ws) (hy:y∈ws) (e:ws.idxOf x=ws.idxOf y):x=y:=by
 have a:=fW hx;rw[e,fW hy]at a;exact(QJ a).symm
theorem tU (ok:RgOk r) {p:Pl} {t:Tu} (h:RdOk r d p) (tok:c7 r.ws t) (nt:t∉d):RdOk r (d++[t]) (bQ r p t).2:=by
 refine⟨k6 h.len,λi a ha=>?_,jh h.st (QK tok.1),λx hx=>?_⟩
 ·have hm:=h.m i a ha;have ne:=(ok.arcs a (Qk ha)).ne;show (fS r.arcs p.1 t)[i]?=_;unfold fS;rw[Qs,f8 ha hm];show some (mkB a _ t)=_;unfold mkB;congr 1;dsimp only;simp only[Qw,QB];by_cases c1:a.one=t
  ·have c2:a.two≠t:=λz=>ne (c1.trans z.symm);by_cases c3:a.two∈d <;> simp[c1,c2,c3,nt] <;> omega
  by_cases c2:a.two=t
  ·by_cases c3:a.one∈d <;> simp[c1,c2,c3,nt] <;> omega
  by_cases c3:a.one∈d <;> by_cases c4:a.two∈d <;> simp[c1,c2,c3,c4] <;> omega
 have xl:=QK hx;have tl:=QK tok.1;show sgB (c_ p.2 (r.ws.idxOf t.1)) (r.ws.idxOf x)=_;rw[qS h.st tl xl,h.s x hx];by_cases c:x=t.1
 ·subst c;rw[Qt rfl];obtain⟨nm,sg⟩:=t;have pm:("-" : Str) ≠ "+" := by decide +kernel
  have nt':=Qv nt;rcases tok.2 with e|e
  ·have e:sg=("+" : Str):=e;subst e;have a1:decide ((nm,("+" : Str))∈d++[(nm,("+" : Str))])=true:=Qx (by simp);have a2:decide ((nm,("-" : Str))∈d++[(nm,("+" : Str))])=decide ((nm,("-" : Str))∈d):=XT.mpr (by simp[pm]);rw[nt',a1,a2];cases sgB r.z (r.ws.idxOf nm) <;> cases decide ((nm,("-" : Str))∈d) <;> rfl
  have e:sg=("-" : Str):=e;subst e;have a1:decide ((nm,("-" : Str))∈d++[(nm,("-" : Str))])=true:=Qx (by simp);have a2:decide ((nm,("+" : Str))∈d++[(nm,("-" : Str))])=decide ((nm,("+" : Str))∈d):=XT.mpr (by simp[pm.symm]);rw[nt',a1,a2];cases sgB r.z (r.ws.idxOf nm) <;> cases decide ((nm,("+" : Str))∈d) <;> rfl
 rw[Qr λz=>c (uC hx tok.1 z)]
 have q:∀(y:Str),(((x,y):Tu)∈d++[t])=(((x,y):Tu)∈d):=λy=>by
  have:((x,y):Tu)≠t:=λz=>c (congrArg Prod.fst z);simp[this]
 rw[show decide (((x, "+"):Tu)∈d++[t])=decide (((x, "+"):Tu)∈d) by rw[XT,q],show decide (((x, "-"):Tu)∈d++[t])=decide (((x, "-"):Tu)∈d) by rw[XT,q]]
theorem tQ {ws:List Str} {y:Str} (hy:StOk ws.length y) (hz:StOk ws.length z) (nd:ws.Nodup) (h:∀x∈ws,sgB y (ws.idxOf x)=sgB z (ws.idxOf x)):y=z:=by
 have ly:=hy.len;have lz:=hz.len
 have e:y.cps=z.cps:=by
  refine Array.ext (ly.trans lz.symm) λi h1 h2=>?_;have iw:i<ws.length:=by omega
  have:=h _ (Xb iw);rw[nd.idxOf_getElem i iw]at this;unfold sgB at this;have g1:y.cps.getD i 0=y.cps[i]:=by simp[Array.getD,h1]
  have g2:z.cps.getD i 0=z.cps[i]:=by simp[Array.getD,h2]
  rw[g1,g2]at this;rcases hy.signs _ (Array.getElem_mem_toList h1) with a|a <;> rcases hz.signs _ (Array.getElem_mem_toList h2) with b|b <;> rw[a,b]at this ⊢ <;> simp at this
 cases y;cases z;cases e;rfl
theorem tV (ok:RgOk r) {p:Pl} (h:RdOk r d p) (all:∀t,c7 r.ws t->t∈d):p=(mks r.arcs,r.z):=by
 refine Prod.ext ?_ ?_
 ·refine List.ext_getElem? λi=>?_;show p.1[i]?=(mks r.arcs)[i]?;unfold mks;rw[Qs]
  cases ha:r.arcs[i]? with
  | none =>
   have:=XJ.mp ha;exact XJ.mpr (by rw[h.len];exact this)
  | some a =>
  have aok:=ok.arcs a (Qk ha);rw[h.m i a ha,Qt (all _ aok.o),Qt (all _ aok.t)];show some _=some a.mark;congr 1;omega
 refine tQ h.st ok.st ok.nd λx hx=>?_;rw[h.s x hx,Qx (all _ ⟨hx,.inl rfl⟩),Qx (all _ ⟨hx,.inr rfl⟩)];cases sgB r.z (r.ws.idxOf x) <;> rfl
theorem fi {α β:Type} {F:α->β->Prop}:∀{xs:List α} {ys:List β} (j:Nat),Paired F xs ys->Paired F (xs.eraseIdx j) (ys.eraseIdx j)
 | _,_,_,.nil=>.nil
 | _,_,0,.cons _ t=>t
 | _,_,j+1,.cons h t=>.cons h (fi j t)
open Classical in
theorem mW {K:PySem.W.Frag} {t:Tu} (h:H l=some (.lst vs)) (p:Paired (TuA H) vs ts) (hu:TuA H u t) (m:t∈ts) (q:Q .non (upd H l (.lst (vs.eraseIdx (ts.idxOf t))))):kM K (.ref l) [u] H Q:=by
 have hi:=QK m;have lp:=ao p;obtain⟨z,hz,tz⟩:=a9 p (Qc hi);rw[List.getElem_idxOf hi]at tz;refine⟨l,vs,u,λv=>decide (TuA H v t),ts.idxOf t,z,rfl,rfl,h,λv hv=>?_,hz,Qx tz,λk v hk hv=>?_,q⟩
 ·obtain⟨x,_,tx⟩:=bB p hv;exact jR tx hu
 obtain⟨x,hx,tx⟩:=paired_get p hv;refine Qv λz=>?_;exact idx_firstT k hk (by rw[hx,tx.inj z])
where
 idx_firstT {ts:List Tu} {t:Tu}:∀m,m<ts.idxOf t->ts[m]?≠some t:=λm hm e=>by
  have h1:=List.not_of_lt_findIdx (xs:=ts) (p:=(·==t)) (i:=m) hm;obtain⟨h2,e2⟩:=Qe.mp e;rw[e2]at h1;simp at h1
theorem sL {K:PySem.W.Frag} {xs:List V} (hi:U[i]?=some (some (.ref l))) (hl:H l=some (.lst xs)) (q:∀H',ak H H'->Q (.bl (!decide (xs.length=0))) H'):tOp (mB K true) (eI i) (qy jk) U H Q:=by
 refine i_op (aH hi (i_lst (bi ⟨by simp[sizeLine],λp hp=>?_⟩)));refine⟨l,p,xs,[],λ_=>true,rfl,rfl,SqL.of (aA hp _ _ hl),SqL.of ag,λj x y _ e=>by simp at e,?_⟩
 have e:(if true=true then !(xs.length==([]:List V).length&&(List.range xs.length).all λ_=>true) else (xs.length==([]:List V).length&&(List.range xs.length).all λ_=>true))=!decide (xs.length=0):=by
  rw[Qt rfl,Q7.mpr (λ_ _=>rfl),Bool.and_true];rfl
 rw[e];exact q _ (aA hp)
structure RI2 (Hb H':Hp) (tq mb q:Addr) (r:Rg) (ts:List Tu) (ps:List Pl) (p:Pl) (d lf:List Tu) (tv qv:List V) (ni:Nat):Prop where
 s:ak Hb H'
 l:H' tq=some (.lst tv)
 lp:Paired (TuA H') tv lf
 m:H' mb=some (.lst (p.1.map V.int))
 q:H' q=some (.lst qv)
 qp:Paired (TuA H') qv (lf.filter (cq r.arcs p.1))
 nm:mb≠tq
 at_:ps[ni]?=some p
 rd:RdOk r d p
 all:∀t,t∈ts↔t∈d\/t∈lf
 nd:lf.Nodup
 ap:∀t∈lf,t∉d
 few:lf.length<=10
def ki:Sp:=λvs H Q _=>∃(a li lo l:Addr) (as:List V) (r:Rg) (s sli slo sln:Addr) (nas:A3) (ts:List Tu) (ps:List Pl) (nds:List Nd),vs=[.ref a,.ref s]/\RgA H a li lo l as r/\RgOk r/\u0 r/\ShAt H s sli slo sln nas (gc r nds)/\ShtP r ts ps nds/\Wt r ts/\∀H',ak H H'->Q (.bl true) H'
section
theorem jr:FnScope ["ring", "sheet", "inputs", "outputs", "first", "arcs", "wires", "left", "marks", "node", "may", "turn"] ["ring", "sheet"] (ax (top 30)):=by fin2
theorem pI {f:Addr} {fd:FuncData} (Fu:Fun K "_law_round" "_law_round" (top 30) f fd) (T:Txt K mg TT) (f_law_may:Fn P w K mg base "_law_may" ["marks", "arcs", "turns"] 2 mo) (f_law_behind:Fn P w K mg base "_law_behind" ["marks", "arcs", "turn"] 2 fI):FnOk P w K mg base CX0 5 f fd ["ring", "sheet"] ki:=by
 have S:=jr;refine Fu.ok S (by room) (λcdv A outer s H vs Q E hr h=>?_);obtain⟨a,li,lo,l,as,r,s,sli,slo,sln,nas,ts,ps,nds,rfl,at_,ok,full,sa,sp,wt,k⟩:=h;have hu:=cL hr;have ha:=at_.ha;refine'⟨?_,?bb,?_⟩
 case bb =>
  walk_at "b";exact(jz (pv 0) (d5 rfl (aB (bv 2 S.nd) (aB (bv 3 S.nd) (aB (bv 4 S.nd) (aB (bv 5 S.nd) bI))))));exact ay 6 S.nd (aF dm (pv 2) (pv 3));exact ay 7 S.nd (aM (dJ rfl hu) (by rfl) T.n_sorted PyProof.Rows.boot_sorted (aa (aF dm (eM "name" [] (a_ (pv 6)) (λ_ _ _ _=>(pe_tup (aa (pv 0) (aa bc ad aL) ae)))) (eM "name" [] (a_ (pv 6)) (λ_ _ _ _=>(pe_tup (aa (pv 0) (aa bc ad aL) ae))))) ad));exact(kN (j:=8) S.nd rfl (by z_go) (tgs:=["one", "other", "mark"]) (cap:=[]) rfl ⟨rfl,rfl,rfl,rfl,rfl,rfl⟩ (a_ (pv 5)) (λ_ _ _ _=>(dD (K:=K) (n:=3) rfl rfl (aB (ba (i:=0) (show List.Nodup [("one" : Str),("other" : Str),("mark" : Str)] by decide +kernel) rfl (by z_go)) (aB (ba (i:=1) (show List.Nodup [("one" : Str),("other" : Str),("mark" : Str)] by decide +kernel) rfl (by z_go)) (aB (ba (i:=2) (show List.Nodup [("one" : Str),("other" : Str),("mark" : Str)] by decide +kernel) rfl (by z_go)) bI))))) (λ_ _ _ _=>cW) (λ_ _ _ _=>(pv 2)));exact ay 9 S.nd af;exact ay 10 S.nd (aP f_law_may hr (aa (pv 8) (aa (pv 5) (aa (pv 7) ad ae) ae) ae));refine' dZ PassesOwn.never ?_ ?_;rotate_left 2;exact(aD (fP hr.units) (pv 10) (pe_lst ad) (aG _));walk_at "p";exact ay 11 S.nd (aq aN (pv 10) af);exact(bH (bE Qz PySem.F.slot_list_remove PySem.F.type_list_remove (mL hr.units) (pv 7) (aa (pv 11) ad ae)));exact ay 8 S.nd (aP f_law_behind hr (aa (pv 8) (aa (pv 5) (aa (pv 11) ad ae) ae) ae));exact ay 9 S.nd (de hu (iP rfl (by rfl) T.n_dict (aa (aq aN (aq az (pv 1) af) (pv 9)) ad)) (aq az (pv 11) af));exact ay 10 S.nd (aP f_law_may hr (aa (pv 8) (aa (pv 5) (aa (pv 7) ad ae) ae) ae))
  with_reducible refine' aU ?e
  case e =>
   exact(xv (cj (fP hr.units) (pv 7) (pe_lst ad) (aG _)) (v_ (cj dP (pv 9) af (aG _))))
 x_go;have w5:=ok.w5;have arl:=ok.few;have tfew:=Wt.few ok wt;have lw:(r.ins.map V.str).length+(r.outs.map V.str).length=r.ws.length:=by rw[Qd,Qd];unfold Rg.ws;rw[Qn]
 lk;refine⟨a,_,rfl,SqT.of ha,rfl,_,_,rfl,aw ⟨_,_,rfl,aw ⟨_,_,rfl,aw ⟨_,_,rfl,aw ⟨rfl,?_⟩⟩⟩⟩⟩;lk;refine f9 at_.hi at_.ho (by rw[lw];omega) λwl hwl=>?_;rw[<-Q3];generalize hE:upd H wl _=H1;obtain⟨S1,qwl⟩:=aj hwl hE;kt_k;kt_k;with_reducible refine s_asg ?_
 refine i_cb (bn (jP rfl qwl (show r.ws.length<=1000 by omega) λtl tv H2 S2 htl qtl pt=>bi ?_));obtain⟨bs,e,ka⟩:=l9 pt;subst e;have atl:=fZ r.ws;refine⟨tl,_,true,rfl,.inl ⟨bs,SqL.of qtl,ka⟩,jp _,by rw[Qd,show (bZ (r.ins++r.outs)).length=2*r.ws.length from atl];omega,λtq bs' ks' htq ka' pm so=>?_⟩;obtain⟨ts',wt',pts⟩:=u3 ok full ka' pm so;obtain rfl:ts'=ts:=wt'.one wt λ_=>Iff.rfl;generalize bs'.map V.ref=tqv at pts;generalize hE:upd H2 tq _=H3;obtain⟨S3,qtq⟩:=aj htq hE;have pts:=ac (λ_ _ h=>TuA.kt (ak.tups S3) h) pts;have S12:=S1.trans S2;have SH3:=S12.trans S3;have ntq:=bx S12 htq;have at3:=at_.same SH3;clear so pm ka' ka hE S1 S2 qwl;kt_k;lk;refine bS (s_list (aH rfl ⟨l,rfl,⟨_,SqL.of at3.arcs.h⟩,λm0 hm0=>?_⟩));refine cP (λ_=>true) (λH v (a:Arc)=>v=.int a.mark) hm0 at3.arcs.h at3.arcs.p (QG ok.few (by decide)) (λH H' v x k h=>h) (λv x H' ia mx S' G N hG _=>?_) (λH5 ys S5 hy py=>?_)
 ·obtain⟨b,v1,v2,rfl,hb,t1,t2⟩:=ia.kt (ak.tups S');refine⟨b,_,rfl,SqT.of hb,rfl,_,_,rfl,aw ⟨_,_,rfl,aw ⟨_,_,rfl,aw ⟨rfl,trivial,i_yes (iteT ?_)⟩⟩⟩⟩;lk;exact hG rfl _ H' (ak.refl _) rfl
 rw[bO]at py;have e:ys=(mks r.arcs).map V.int:=by rw[bW py];unfold mks;rw[Q0];rfl
 subst e;have po0:=sp.ok _ (Qk sp.zero);have nm0:m0≠tq:=aC qtq hm0;have qtq5:=S5 _ _ qtq;have pts5:=ac (λ_ _ h=>TuA.kt (ak.tups S5) h) pts;lk;refine⟨m0,l,tq,as,r,mks r.arcs,tqv,ts',rfl,hy,(at3.same S5).arcs,ok,po0.m,qtq5,pts5,tfew,λq qv H6 S6 hq0 hq pq=>?_⟩;have ri:RI2 H H6 tq m0 q r ts' ps (mks r.arcs,r.z) [] ts' tqv qv 0:=⟨(SH3.trans S5).trans S6,S6 _ _ qtq5,ac (λ_ _ h=>TuA.kt (ak.tups S6) h) pts5,S6 _ _ hy,hq,pq,nm0,sp.zero,qZ ok,λt=>by simp,wt.nd,(λt _ h=>nomatch h),tfew⟩;clear S5 S6 hq pq pts5 qtq5 hy py nm0 hm0 pts qtq S3 at3 SH3;kt_k;kt_k;let I22:IvF:=λn U H'=>∃(p:Pl) (d lf:List Tu) (tv qv:List V) (mb q:Addr) (ni:Nat) (y11:Option V),U=[some (.ref a),some (.ref s),some (.ref li),some (.ref lo),some (.str r.z),some (.ref l),some (.ref wl),some (.ref tq),some (.ref mb),some (.int (ni:Int)),some (.ref q),y11]/\RI2 H H' tq mb q r ts' ps p d lf tv qv ni/\lf.length=n;refine⟨I22,⟨_,_,_,_,_,_,_,_,_,_,rfl,ri,rfl⟩,?_⟩;rintro n U H' ⟨p,d,lf,tv,qv,mb,q,ni,y11,rfl,i,hn⟩;clear ri;refine oN rfl i.q λG1 T1=>?_;have lq:=ao i.qp;by_cases c0:qv.length=0
 ·refine ifF (by rw[Qx c0];rfl) ?_;refine s_ret (i_orV (sL rfl (T1 _ _ i.l) λG2 T2=>⟨_,rfl,?_⟩));have lt:=ao i.lp;by_cases c1:tv.length=0
  ·refine ifF (by rw[Qx c1];rfl) ?_;have e0:lf=[]:=List.eq_nil_of_length_eq_zero (by omega)
   have ep:p=(mks r.arcs,r.z):=tV ok i.rd λt ht=>by
    obtain⟨a',ha',e'⟩:=full t ht;have mt:t∈ts':=(wt.mem t).mpr ⟨a',ha',e'⟩;rcases(i.all t).mp mt with h|h
    ·exact h
    rw[e0]at h;cases h
   have en:ni=0:=kW sp.nd i.at_ (by rw[ep];exact sp.zero);subst en;lk;rw[Qx (show V.int ((0:Nat):Int)=V.int 0 from rfl)];exact k _ ((i.s.trans T1).trans T2)
  exact ifT (by rw[Qv c1];rfl) (k _ ((i.s.trans T1).trans T2))
 refine ifT (by rw[Qv c0];rfl) ?_
 obtain⟨n1,rfl⟩:∃n1,n=n1+1:=⟨n-1,by
  have:=XA (cq r.arcs p.1) lf
  omega⟩
 refine⟨_,λσ' H2 h=>⟨n1,Nat.lt_succ_self _,h⟩,?_⟩;obtain⟨v,hv⟩:∃v,qv[0]?=some v:=⟨_,Qc (by omega)⟩;obtain⟨t,et,tu⟩:=paired_get i.qp hv;have tu:=tu.kt (ak.tups T1);obtain⟨ta,rfl,hta⟩:=id tu;obtain⟨ml,may⟩:=QR.mp (Qk et);have mt:t∈ts':=(i.all t).mpr (.inr ml);have pm:=Qk i.at_;have po:=sp.ok p pm;have tok:=Wt.ok ok wt mt;have hq1:=T1 _ _ i.q;lk;refine bF (SqL.of hq1) (bA (j:=0) hv) ?_;lk;refine⟨i_tyL (T1 _ _ i.l),bn (aH rfl (bi (mW (T1 _ _ i.l) (ac (λ_ _ h=>TuA.kt (ak.tups T1) h) i.lp) tu ml ?_)))⟩;generalize hE2:upd G1 tq _=G2;have sT:ak H G2:=by rw[<-hE2];exact ca (i.s.trans T1) ntq
 have kb2:∀b o,G1 b=some o->b≠tq->G2 b=some o:=λb o e z=>by rw[<-hE2,ah z];exact e
 have kt2:aY G1 G2:=by rw[<-hE2];exact bN (T1 _ _ i.l)
 have hl2:G2 tq=some (.lst (tv.eraseIdx (lf.idxOf t))):=by rw[<-hE2];exact ag
 have lp2:=fi (lf.idxOf t) (ac (λ_ _ h=>TuA.kt kt2 (TuA.kt (ak.tups T1) h)) i.lp);rw[<-List.erase_eq_eraseIdx_of_idxOf (l:=lf) (a:=t) rfl]at lp2;have le:(lf.erase t).length=lf.length-1:=XO ml;have lpos:=List.length_pos_of_mem ml;have few:=i.few;have tu2:=tu.kt kt2;have hta2:=kt2 _ _ hta;have at2:=at_.same sT;generalize tv.eraseIdx (lf.idxOf t)=tv2 at hl2 lp2;clear hE2;lk;refine⟨mb,l,ta,as,r,p.1,t,rfl,kb2 _ _ (T1 _ _ i.m) i.nm,at2.arcs,ok,po.m,tu2,λmb' G3 T3 hn3 hm3=>?_⟩;have sa3:=sa.same (sT.trans T3);have hs3:=sa3.ha;have hta3:=T3 _ _ hta2;obtain⟨na,nvs,hna,hnv,pn⟩:=sa3.nd (show (gc r nds).nodes[ni]?=_ from sp.node ni p i.at_);have pnl:=ao pn;have pnl2:(cx r ts' ps p).length<=10:=by unfold cx;rw[Qd];exact QG (XA _ _) tfew
 lk;refine i_dget (lC ?_);lk;refine bF (SqL.of sa3.hn) (bA hna) ?_;refine bi ⟨na,nvs,_,rfl,SqL.of hnv,by omega,kY pn,λd3 hd=>?_⟩;generalize hE:upd G3 d3 _=G4;obtain⟨T4,qd⟩:=aj hd hE;have hta4:=T4 _ _ hta3;lk;refine⟨d3,_,rfl,by have z:=cw.k (k:=Sum.inr t.1) qd;rw[kX (sp.names ok wt pm) (Qj.mpr ⟨t,QR.mpr ⟨mt,may⟩,rfl⟩)]at z;exact z,?_⟩;have T34:=T3.trans T4;have gn:=sp.to_ pm mt may;have pn':=sp.ok _ (Qk gn);have hm4:=T4 _ _ hm3;have hl4:=T34 _ _ hl2;have lp4:=ac (λ_ _ h=>TuA.kt (ak.tups T34) h) lp2;lk;refine⟨mb',l,tq,as,r,(bQ r p t).2.1,tv2,lf.erase t,rfl,hm4,(at2.same T34).arcs,ok,pn'.m,hl4,lp4,by omega,λq' qv' G5 T5 hq0 hq' pq'=>?_⟩;refine⟨(bQ r p t).2,d++[t],lf.erase t,tv2,qv',mb',q',ps.idxOf (bQ r p t).2,_,rfl,⟨(sT.trans T34).trans T5,T5 _ _ hl4,ac (λ_ _ h=>TuA.kt (ak.tups T5) h) lp4,T5 _ _ hm4,hq',pq',aC hl2 hn3,gn,tU ok i.rd tok (i.ap t ml),λx=>?_,i.nd.erase t,λx hx=>?_,by omega⟩,by omega⟩
 ·rw[i.all x,Qw,QB,i.nd.mem_erase_iff]
  constructor
  ·rintro(h|h)
   ·exact .inl (.inl h)
   by_cases c:x=t
   ·exact .inl (.inr c)
   exact .inr ⟨c,h⟩
  rintro((h|h)|h)
  ·exact .inl h
  ·exact .inr (h▸ml)
  exact .inr h.2
 obtain⟨h1,h2⟩:=i.nd.mem_erase_iff.mp hx;rw[Qw,QB,not_or];exact⟨i.ap x h2,h1⟩
end
section
theorem kH:FnScope ["pool", "names", "turns", "order", "marks", "turn", "other", "pair", "odd", "first", "k", "name", "sign", "arcs", "at"] ["pool"] (ax (top 26)):=by fin2
theorem ub {f:Addr} {fd:FuncData} (Fu:Fun K "_law_ring" "_law_ring" (top 26) f fd) (T:Txt K mg TT) (f_law_take:Fn P w K mg base "_law_take" ["pool", "many"] 1 dU) (f_law_names:Fn P w K mg base "_law_names" ["pool", "many"] 2 kh) (f_law_order:Fn P w K mg base "_law_order" ["pool", "things"] 2 (nR K)) (f_law_arcs:Fn P w K mg base "_law_arcs" ["pool", "order", "names"] 2 qR):FnOk P w K mg base CX0 3 f fd ["pool"] qO:=by
 have S:=kH;refine Fu.ok S (by room) (λcdv A outer s H vs Q E hr h=>?_);obtain⟨D,rfl,DA,dn,k⟩:=h;have hu:=cL hr;refine'⟨?_,?bb,?_⟩
 case bb =>
  walk_at "b";exact ay 1 S.nd (aP f_law_names hr (aa (pv 0) (aa (aF bV af (aq aN (pe_lst (aa (aP f_law_take hr (aa (pv 0) (aa af ad aL) ae)) (aa (aP f_law_take hr (aa (pv 0) (aa af ad aL) ae)) ad aZ) aZ)) (aP f_law_take hr (aa (pv 0) (aa af ad aL) ae)))) ad se_bin) ae));exact ay 2 S.nd (aF dm (eM "name" [] (a_ (pv 1)) (λ_ _ _ _=>(pe_tup (aa (pv 0) (aa bc ad aL) ae)))) (eM "name" [] (a_ (pv 1)) (λ_ _ _ _=>(pe_tup (aa (pv 0) (aa bc ad aL) ae)))));exact ay 3 S.nd (aP f_law_order hr (aa (pv 0) (aa (pv 2) ad ae) ae));exact ay 4 S.nd (aP f_law_arcs hr (aa (pv 0) (aa (pv 3) (aa (pv 1) ad ae) ae) ae));walk_at "f";exact(a_ (pv 2));exact(bv 5 S.nd);walk_at "p";exact(aD (mF hr.units) (wc (gJ (tgs:=["pair"]) (cap:=[("turn", 5)]) rfl ⟨rfl,rfl,rfl,rfl,rfl,rfl⟩ (rn (pv 4)) (λ_ _ _ _=>(ba (i:=0) (show List.Nodup [("pair" : Str),("turn" : Str)] by decide +kernel) rfl (by z_go))) (λ_ _ _ _=>(d4 (aD (jB (K:=K) rfl hr.units) (aq (dG (K:=K) rfl) (pv 0) af) (pv 1) (aG _)))) (λ_ _ _ _=>(pv 0)))) (pe_lst ad) (aG _));exact ay 6 S.nd (aq aN (pv 2) (aP f_law_take hr (aa (pv 0) (aa (aM aK (by rfl) T.n_len Xa (aa (pv 2) ad ae)) ad aZ) ae)));exact(aD (fR hr.units) (pv 6) (pv 5) (aG _));exact ay 6 S.nd (pe_tup (aa (aq az (pv 5) af) (aa (aq dH bc (be bY (by rfl) T.n_int XB (aa (cj dP (aq az (pv 5) af) bc (aG _)) ad))) ad)));exact(db hu (pv 4) (pe_tup (aa (pv 6) (aa (pv 5) ad ae) ae)) (be bY (by rfl) T.n_int XB (aa (cj kT (bE Qz Xc Xd (cQ hr.units) (pv 3) (aa (pv 6) ad ae)) (bE Qz Xc Xd (cQ hr.units) (pv 3) (aa (pv 5) ad ae)) (aG _)) ad)) rfl);exact(aD dP (aP f_law_take hr (aa (pv 0) (aa af ad aL) ae)) af (aG _));exact ay 7 S.nd (aq aN (aM (dJ rfl hu) (by rfl) T.n_sorted PyProof.Rows.boot_sorted (aa (pv 4) ad ae)) (aP f_law_take hr (aa (pv 0) (aa (aM qh (by rfl) T.n_len Xa (aa (pv 4) ad ae)) ad aZ) ae)));exact(db hu (pv 4) (pv 7) (aF fO af (de hu (pv 4) (pv 7))) rfl);exact ay 8 S.nd (aP f_law_take hr (aa (pv 0) (aa (aF d7 af (aM aK (by rfl) T.n_len Xa (aa (pv 1) ad ae))) ad) ae));exact ay 9 S.nd bc;walk_at "f";exact(ou (by rfl) T.n_enumerate (aa (pv 1) ad ae));exact(d5 rfl (aB (bv 10 S.nd) (aB (bv 11 S.nd) bI)));walk_at "p";exact ay 12 S.nd (be bY (by rfl) T.n_int XB (aa (cj oz (bE Qz Xc Xd (cQ hr.units) (pv 3) (aa (pe_tup (aa (pv 11) (aa bc ad aL) ae)) ad se_tup)) (bE Qz Xc Xd (cQ hr.units) (pv 3) (aa (pe_tup (aa (pv 11) (aa bc ad aL) ae)) ad se_tup)) (aG _)) ad));exact ay 9 S.nd (aF bM (pv 9) (aq dH bc (aF fQ (aF bV (pv 12) (be bY (by rfl) T.n_int XB (aa (cj dP (pv 8) (pv 10) (aG _)) ad))) af)));exact(kN (j:=13) S.nd rfl (by z_go) (tgs:=["pair"]) (cap:=[("marks", 4)]) rfl ⟨rfl,rfl,rfl,rfl,rfl,rfl⟩ (a_ (aM (dJ rfl hu) (by rfl) T.n_sorted PyProof.Rows.boot_sorted (aa (pv 4) ad ae))) (λ_ _ _ _=>(ba (i:=0) (show List.Nodup [("pair" : Str),("marks" : Str)] by decide +kernel) rfl (by z_go))) (λ_ _ _ _=>cW) (λ_ _ _ _=>(pe_tup (aa (aq (dG (K:=K) rfl) (pv 0) af) (aa (aq (dG (K:=K) rfl) (pv 0) af) (aa (de hu (pv 1) (pv 0)) ad))))));exact ay 14 S.nd (aP f_law_take hr (aa (pv 0) (aa (aM (i6 rfl) (by rfl) T.n_min PyProof.Rows.boot_min (aa af (aa (aM aK (by rfl) T.n_len Xa (aa (pv 1) ad ae)) ad aZ) aL)) ad aZ) ae));refine' aU ?e
  case e =>
   walk_at "q";exact(cg nY (pv 1) cO (cN (pv 14)));exact(cg nY (pv 1) (cN (pv 14)) cO);exact(pv 9);exact(pv 13)
 x_go;lk;refine bt (c:=0) (Kp.of DA (ak.refl H)) (by omega) (by omega) (by omega) λx1 H1 x10 x11 o1 kp1=>?_;lk;refine bt kp1 (by omega) (by omega) (by omega) λx2 H2 x20 x21 o2 kp2=>?_;lk;refine⟨by simp[sizeLine],λp0 hp0=>?_⟩;generalize hE:upd H2 p0 _=H3;obtain⟨S3,q3⟩:=aj hp0 hE;have np0:¬D.own p0:=aJ (D:=D.more _) kp2.dk hp0;have kp3:=kp2.trans (Kp.of kp2.dk S3);lk;refine bt kp3 (by omega) (by omega) (by omega) λx3 H4 x30 x31 o4 kp4=>?_
 have ex:∃m:Int,atI [V.int x1,V.int x2] x3=some (.int m)/\0<=m/\m<=4:=by
  have:x3=0\/x3=1:=by omega
  rcases this with rfl|rfl
  ·exact⟨x1,rfl,x10,by omega⟩
  exact⟨x2,rfl,x20,by omega⟩
 obtain⟨m,em,m0,m4⟩:=ex;refine bF (SqL.of (o4 _ _ q3 np0)) em ?_;lk;refine⟨D.more 3,(1+m).toNat,by rw[show (((1+m).toNat:Nat):Int)=1+m by omega];rfl,kp4.dk,by show D.n+3<50000;omega,by omega,by omega,λnl ws H5 kp5 hnl wl wnd qn=>?_⟩;have kpa:Kp (D.more 203) H H5:=kp4.trans (kp5.le (Qg _));have nlH:H nl=none:=kp4.free hnl;clear hE q3 S3 o1 o2 o4 kp1 kp2 kp3 kp5;have w1:1<=ws.length:=by omega
 have w5:ws.length<=5:=by omega
 kt_k;kt_k;with_reducible refine s_asg ?_
 refine jP rfl qn (by omega) λtl tv H8 S58 htl qtl pt=>?_;have kp8:=kpa.trans (Kp.of kpa.dk S58);have htlH:H tl=none:=kpa.free htl;have tl_:=ao pt;have atl:=fZ ws;refine aw ?_;lk;refine⟨D.more 203,tl,tv,rfl,kp8.dk,SqL.of qtl,by show D.n+203<50000;omega,by omega,λol ov H9 kp9 hol pm qol=>?_⟩;obtain⟨ots,pot,pmo⟩:=Ht.paired_perm pm pt;have no8:∀b,H b=none->¬D.own b:=λb hb=>aJ DA hb;have kt9:aY H8 H9:=Kp.tups (D:=(D.more 203).more 100) (kp8.dk.le (QI _ _)) kp9;have kpb:Kp (D.more 303) H H9:=kp8.trans (kp9.le (Qg _));have holH:H ol=none:=kp8.free hol;have po9:Paired (TuA H9) ov ots:=ac (λ_ _ h=>h.kt kt9) pot;have all:∀t,t∈ots↔c7 ws t:=λt=>pmo.mem_iff.trans cR;have otl:ots.length=2*ws.length:=by rw[pmo.length_eq,atl]
 have qn9:=kp9.old _ _ (S58 _ _ qn) (no8 _ nlH);lk;refine⟨D.more 303,ol,nl,ov,ots,ws,rfl,kpb.dk,by show D.n+303<50000;omega,qol,po9,qn9,all,by omega,by omega,w5,λLm kvs H10 kp10 hLm md=>?_⟩;have kpc:Kp (D.more 373) H H10:=kpb.trans (kp10.le (Qg _));have hLmH:H Lm=none:=kpb.free hLm;have kt10:aY H9 H10:=Kp.tups (D:=(D.more 303).more 70) (kpb.dk.le (QI _ _)) kp10
 have no:∀b∈[nl,tl,ol,Lm],¬D.own b:=λb hb=>by
  simp only[Qh,QA,Xk]at hb;rcases hb with rfl|rfl|rfl|rfl
  ·exact no8 _ nlH
  ·exact no8 _ htlH
  ·exact no8 _ holH
  exact no8 _ hLmH
 have ri:RI D H H10 nl tl ol Lm ws tv (bZ ws) ov ots kvs 52 373:=⟨kpc,kp10.old _ _ qn9 (no8 _ nlH),kp10.old _ _ (kp9.old _ _ qtl (no8 _ htlH)) (no8 _ htlH),ac (λ_ _ h=>(h.kt kt9).kt kt10) pt,kp10.old _ _ qol (no8 _ holH),ac (λ_ _ h=>h.kt kt10) po9,md⟩;clear kt10 kpc kp10 md po9 kt9 kpb kp9 kp8 S58 pot pm pt qtl qol qn9;lk;refine⟨tl,rfl,⟨_,SqL.of ri.tl⟩,?_⟩;let I23:IvF:=λi U H'=>∃kvs y5 y6,U=[some (.ref D.d),some (.ref nl),some (.ref tl),some (.ref ol),some (.ref Lm),y5,y6,none,none,none,none,none,none,none,none]/\RI D H H' nl tl ol Lm ws tv (bZ ws) ov ots kvs (52+i) (373+i)/\∀t∈(bZ ws).take i,∃p:Pr,tkR p∈kvs.map (·.1)/\p.2=t;refine cZ (xs:=tv) I23 ⟨kvs,_,_,rfl,ri,λt h=>by simp at h⟩ (λi U H' _ ⟨_,_,_,_,ri,_⟩=>SqL.of ri.tl) (λi x U H' ex h=>?_) (λU H' h=>?_)
 ·obtain⟨kvs,y5,y6,rfl,ri,inc⟩:=h;obtain⟨t,et,tu⟩:=paired_get ri.tp ex;have tkt:c7 ws t:=cR.mp (Qk et);have hi:=(Qe.mp ex).1;have kl:=ri.md.l
  have inc':∀kvs':List (av × V),(∀k∈kvs.map (·.1),k∈kvs'.map (·.1))->(∃p:Pr,tkR p∈kvs'.map (·.1)/\p.2=t)->∀t∈(bZ ws).take (i+1),∃p:Pr,tkR p∈kvs'.map (·.1)/\p.2=t:=λkvs' sub new t' ht'=>by
   rw[List.take_succ,et]at ht';rcases Qw.mp ht' with h|h
   ·obtain⟨p,h1,h2⟩:=inc t' h;exact⟨p,sub _ h1,h2⟩
   have:t'=t:=by simpa using h
   rw[this];exact new
  refine aw ?_;lk;refine⟨Lm,_,.inl ri.md.h,trivial,λo=>?_⟩;refine bS (aH rfl ⟨Lm,o,kvs,rfl,ag,λLc hLc=>?_⟩)
  classical
  have ktz:aY H' (upd H' Lm (.frz o (.dT kvs))):=cY ri.md.h;refine uO (λkv=>decide (∃p:Pr,kv.1=tkR p/\p.2=t)) (λH v kv=>True) hLc ag (by omega) (λ_ _ _ _ _ h=>h) (λkv b H2 mk tb S2 G N hG hN=>?_) (λH2 ys S2 hy pz=>?_)
  ·obtain⟨p,ek,pok,_⟩:=ri.md.ok kv mk;rw[ek]at tb;obtain⟨_,v1,v2,e,hb,h1,h2⟩:=PrA.of tb;cases e;refine aw ⟨⟨rfl,trivial⟩,?_⟩;lk;refine dI h2 ((tu.kt ktz).kt (ak.tups S2)) ⟨_,rfl,?_⟩;by_cases ce:p.2=t
   ·refine ifT (Qx ce) ?_;lk;exact hG (Qx ⟨p,ek,ce⟩) _ H2 (ak.refl _) trivial
   exact ifF (Qv ce) (hN (Qv λ⟨q,e1,e2⟩=>ce (by rw[ji (ek.symm.trans e1)];exact e2)) H2 (ak.refl _))
  have ncm:Lc≠Lm:=λz=>by rw[z,ag]at hLc;cases hLc
  refine⟨S2 _ _ ag,jy (by rw[bD ncm];exact hy) λH3 S3=>?_⟩;have ri3:=ri.same ((iK S2).trans S3);have tu3:=tu.kt (ak.tups ((iK S2).trans S3));by_cases c0:ys.length=0
  ·refine ifT (Qx c0) ?_;have tl3:=ri3.tl;lk;refine bt ri3.kp (by omega) (by omega) (by omega) λr H4 r0 r1 o4 kp4=>?_;have ri4:=ri3.draw no o4 kp4;have tu4:=tu3.kt (ri3.kp.kt o4);obtain⟨v6,e6,hv6⟩:=gt (xs:=tv) (i:=r) (by omega) r1;obtain⟨t6,ht6,tu6⟩:=bB ri4.tp hv6;refine bF (SqL.of ri4.tl) e6 ?_;refine aw ?_;obtain⟨ta,rfl,hta⟩:=id tu4;let I24:IvJ:=λU G=>∃vo to,U=[some (.ref D.d),some (.ref nl),some (.ref tl),some (.ref ol),some (.ref Lm),some (.ref ta),some vo,none,none,none,none,none,none,none,none]/\ak H4 G/\TuA G vo to/\c7 ws to/\to≠t;with_reducible refine dr I24 (λRR hJ=>?_) (λU G h=>?_)
   ·lk;refine dI tu6 tu4 ⟨_,rfl,?_⟩;by_cases ce:t6=t
    ·refine ifT (Qx ce) ?_;lk;obtain⟨c,ec,ec2⟩:=wg tkt.2;refine fD (by decide) ec ?_;rw[ec2];lk;refine⟨by simp[sizeLine],λp5 h5=>?_⟩;exact hJ _ _ ⟨_,_,rfl,aA h5,⟨p5,rfl,ag⟩,wf tkt⟩
    exact ifF (Qv ce) (s_next (hJ _ _ ⟨_,_,rfl,ak.refl _,tu6,cR.mp ht6,ce⟩))
   obtain⟨vo,to,rfl,SG,tuo,tko,ne⟩:=h;have riG:=ri4.same SG;have tuG:=tu4.kt (ak.tups SG);have olG:=riG.ol;refine dX ?_;lk;refine cS olG riG.op tuo ((all _).mpr tko) ?_;lk;refine cS olG riG.op tuG ((all _).mpr tkt) ?_;lk;refine⟨by simp[sizeLine],λp3 h3=>?_⟩;have hm:=bit (decide (((ots.idxOf t:Nat):Int)<(ots.idxOf to:Nat)));generalize (if (decide (((ots.idxOf t:Nat):Int)<(ots.idxOf to:Nat)))=true then (1:Int) else 0)=m at hm ⊢;generalize hE:upd G p3 _=H5;obtain⟨S5,q5⟩:=aj h3 hE;have pa5:PrA H5 (.ref p3) (to,t):=⟨p3,_,_,rfl,q5,tuo.kt (ak.tups S5),tuG.kt (ak.tups S5)⟩;have ri5:=riG.same S5;refine⟨Lm,_,rfl,fb.t ri5.md.h pa5.tk (by omega),?_⟩;have d:=ri5.md.put (H':=upd H5 Lm (.dT (bh kvs (tkR (to,t)) (.int m)))) (p:=(to,t)) (m:=m) ⟨tko,tkt,ne⟩ hm ag;refine⟨_,_,_,rfl,ri5.set DA hLmH d,inc' _ (λk hk=>?_) ⟨(to,t),?_,rfl⟩⟩
   ·rcases du kvs (tkR (to,t)) (.int m) with⟨_,e⟩|⟨_,e⟩
    ·rw[e];exact hk
    rw[e];exact Q6 _ hk
   rcases du kvs (tkR (to,t)) (.int m) with⟨h,e⟩|⟨_,e⟩
   ·rw[e];exact h
   rw[e];exact QF _ (List.mem_singleton_self _)
  refine ifF (Qv c0) (s_next ⟨kvs,_,_,rfl,ri3.up (by omega) (by omega),inc' kvs (λ_ h=>h) ?_⟩);have pl:=ao pz
  cases hf:kvs.filter λkv=>decide (∃p:Pr,kv.1=tkR p/\p.2=t) with
  | nil=>rw[hf]at pl;exact absurd pl c0
  | cons kv r =>
  have:kv∈kvs.filter λkv=>decide (∃p:Pr,kv.1=tkR p/\p.2=t):=by rw[hf];simp
  obtain⟨m1,m2⟩:=QR.mp this;obtain⟨p,e1,e2⟩:=XD m2;exact⟨p,Qj.mpr ⟨kv,m1,e1⟩,e2⟩
 obtain⟨kvs,y5,y6,rfl,ri,inc⟩:=h;rw[Q4 (Nat.le_of_eq tl_.symm)]at inc;have ri:=ri.up (n':=62) (c':=383) (by omega) (by omega)
 have kpos:∀kvs:List (av × V),(∀t∈bZ ws,∃p:Pr,tkR p∈kvs.map (·.1)/\p.2=t)->1<=kvs.length:=λkvs inc=>by
  cases ws with
  | nil=>simp at w1
  | cons n ws =>
  obtain⟨p,hp,_⟩:=inc (n, "+") (cR.mpr ⟨by simp,.inl rfl⟩);have:=List.length_pos_of_mem hp;rwa [Qd]at this
 let I25:IvJ:=λU G=>∃kvs y7,U=[some (.ref D.d),some (.ref nl),some (.ref tl),some (.ref ol),some (.ref Lm),y5,y6,y7,none,none,none,none,none,none,none]/\RI D H G nl tl ol Lm ws tv (bZ ws) ov ots kvs 62 390/\∀t∈bZ ws,∃p:Pr,tkR p∈kvs.map (·.1)/\p.2=t;with_reducible refine dr I25 (λRR hJ=>?_) (λU G h=>?_)
 ·lk;refine bt ri.kp (by omega) (by omega) (by omega) λr H2 r0 r1 o2 kp2=>?_;have ri2:=ri.draw no o2 kp2;lk;cases decide (V.int r=V.int 0)
  ·exact iteF (s_next (hJ _ _ ⟨kvs,_,rfl,ri2.up (by omega) (by omega),inc⟩))
  refine iteT ?_;lk;refine ri2.md.sort (by decide) λp vs ps hp pp pm so=>?_;generalize hE:upd H2 p _=H3;obtain⟨S3,q3⟩:=aj hp hE;have ri3:=ri2.same S3;have np:¬D.own p:=aJ (D:=D.more _) ri2.kp.dk hp;have kl:=ri3.md.l;have kp1:=kpos kvs inc
  have vl:vs.length=kvs.length:=by
   have:=pm.length_eq;rw[Qd,Qd]at this;rw[ao pp,this]
  lk;refine⟨Lm,kvs,rfl,ri3.md.h,?_⟩;lk;refine bt ri3.kp (by omega) (by omega) (by omega) λr H4 r0 r1 o4 kp4=>?_;have ri4:=ri3.draw no o4 kp4;obtain⟨v7,e7,hv7⟩:=gt (xs:=vs) (i:=r) (by omega) (by omega);obtain⟨pr,hpr,pa⟩:=bB pp hv7;refine bF (SqL.of (o4 _ _ q3 np)) e7 ?_;have pa4:=(pa.kt (ak.tups S3)).kt (ri3.kp.kt o4);obtain⟨b7,_,_,rfl,_⟩:=id pa4;have hk:tkR pr∈kvs.map (·.1):=pm.mem_iff.mp (Qj.mpr ⟨pr,hpr,rfl⟩);obtain⟨pok,m,ev,hm⟩:=ri4.md.val hk;refine aw ?_;with_reducible refine dX ?_
  lk;refine⟨Lm,_,rfl,by have z:=cw.t ri4.md.h pa4.tk;rw[ev]at z;exact z,?_⟩;lk;refine⟨Lm,_,rfl,fb.t ri4.md.h pa4.tk (by omega),?_⟩;have d:=ri4.md.set (H':=upd H4 Lm (.dT (bh kvs (tkR pr) (.int (1-m))))) (p:=pr) (m:=1-m) hk pok (by omega) ag;refine hJ _ _ ⟨_,_,rfl,(ri4.set DA hLmH d).up (by omega) (by omega),λt ht=>?_⟩;obtain⟨q,h1,h2⟩:=inc t ht;refine⟨q,?_,h2⟩;rcases du kvs (tkR pr) (.int (1-m)) with⟨_,e⟩|⟨_,e⟩
  ·rw[e];exact h1
  rw[e];exact Q6 _ h1
 obtain⟨kvs,y7,rfl,ri,inc⟩:=h;have nl3:=ri.nl;lk;rw[Qd];refine bt ri.kp (by omega) (by omega) (by omega) λod H2 r0 r1 o2 kp2=>?_;have ri:=ri.draw no o2 kp2;have nl3:=ri.nl;lk;refine bn (aH rfl (bi ⟨nl,rfl,⟨_,SqL.of nl3⟩,?_⟩));let I26:IvF:=λi U H'=>∃z y10 y11 y12,U=[some (.ref D.d),some (.ref nl),some (.ref tl),some (.ref ol),some (.ref Lm),y5,y6,y7,some (.int od),some (.str z),y10,y11,y12,none,none]/\RI D H H' nl tl ol Lm ws tv (bZ ws) ov ots kvs 62 391/\StOk i z;refine lF (xs:=ws.map V.str) I26 ⟨_,_,_,_,rfl,ri,⟨rfl,λc hc=>nomatch hc⟩⟩ (λi U H' _ ⟨_,_,_,_,_,ri,_⟩=>SqL.of ri.nl) (λi x U H' TA ex h hT=>?_) (λU H' h=>?_)
 ·obtain⟨z,y10,y11,y12,rfl,ri,st⟩:=h;have hi:=(Qe.mp ex).1;rw[Qs]at ex;obtain⟨n,en,rfl⟩:=Xv.mp ex;have mn:=Qk en;generalize hE:upd H' TA _=H2;obtain⟨S2,q2⟩:=aj hT hE;have ri2:=ri.same S2;have ol2:=ri2.ol;refine⟨TA,_,rfl,SqT.of q2,rfl,_,_,rfl,aw ⟨_,_,rfl,aw ⟨rfl,?_⟩⟩⟩;lk;refine⟨by simp[sizeLine],λp3 h3=>?_⟩;generalize hE:upd H2 p3 _=H3;obtain⟨S3,q3⟩:=aj h3 hE;have ri3:=ri2.same S3;have ol3:=ri3.ol;lk;refine cS (t:=(n, "-")) ol3 ri3.op ⟨p3,rfl,q3⟩ ((all _).mpr ⟨mn,.inr rfl⟩) ?_;lk;refine⟨by simp[sizeLine],λp4 h4=>?_⟩;generalize hE:upd H3 p4 _=H4;obtain⟨S4,q4⟩:=aj h4 hE;have ri4:=ri3.same S4;lk;refine cS (t:=(n, "+")) ri4.ol ri4.op ⟨p4,rfl,q4⟩ ((all _).mpr ⟨mn,.inl rfl⟩) ?_;lk;obtain⟨c,ec,hc⟩:=yz (_+_);refine fD (by decide) ec ?_;have zl:z.length=i:=st.len;rw[Qd]at hi;refine⟨z,_,rfl,rfl,by show z.length+1<=_;omega,?_⟩;exact⟨_,_,_,_,rfl,ri4,tP st hc⟩
 obtain⟨z,y10,y11,y12,rfl,ri,st⟩:=h;rw[Qd]at st;lk;refine bS (s_list (i_cb (bn (aH rfl (bi (ri.md.sort (by decide) λp vs ps hp pp pm so=>?_))))));generalize hE:upd H' p _=H2;obtain⟨S2,q2⟩:=aj hp hE;have ri2:=ri.same S2;refine⟨p,rfl,⟨_,SqL.of q2⟩,λLa hLa=>?_⟩
 have pl:ps.length<=62:=by
  have:=pm.length_eq;have:=ri.md.l;simp only[Qd] at *;omega
 have hk:∀x∈ps,tkR x∈kvs.map (·.1):=λx hx=>pm.mem_iff.mp (Qj.mpr ⟨x,hx,rfl⟩);refine cP (λ_=>true) (λH v x=>ArA H v (lT kvs x)) hLa q2 pp (by omega) (λH H' v x k h=>h.kt k) (λv x H3 pa mx S3 G N hG _=>?_) (λH3 ys S3 hy py=>?_)
 ·obtain⟨b,v1,v2,rfl,hb,t1,t2⟩:=pa.kt (ak.tups (S2.trans S3));have ri3:=ri2.same S3;obtain⟨pok,ev,hm⟩:=k7 ri3.md (hk x mx);have pa3:PrA H3 (.ref b) x:=⟨b,v1,v2,rfl,hb,t1,t2⟩;refine aw ⟨⟨rfl,trivial⟩,i_yes (iteT ?_)⟩;lk;refine⟨Lm,_,rfl,by have z:=cw.t ri3.md.h pa3.tk;rw[ev]at z;exact z,?_⟩;lk;refine⟨by simp[sizeLine],λp4 h4=>?_⟩;have S4:=aA (o:=.tup [v1,v2,.int (mM kvs x)]) h4;exact hG rfl _ _ S4 ⟨p4,_,_,rfl,ag,t1.kt (ak.tups S4),t2.kt (ak.tups S4)⟩
 rw[bO]at py;have py:=bL (f:=lT kvs) py;have ri3:=ri2.same S3;have hLaH:H La=none:=ri2.kp.free hLa;have nl3:=ri3.nl;lk;refine⟨5,_,rfl,?_⟩;rw[Qd];lk;refine bt ri3.kp (by omega) (by split <;> omega) (by split <;> omega) λr H4 r0 r1 o4 kp4=>?_;have ri4:=ri3.draw no o4 kp4
 have rl:r.toNat<ws.length:=by
  have:r<ws.length:=by
   split at r1 <;> omega
  omega
 obtain⟨j,rfl⟩:∃j:Nat,r=(j:Int):=⟨r.toNat,by omega⟩;rw[QX]at rl;have nl4:=ri4.nl;have hya:=o4 _ _ hy (no8 _ hLaH);have py4:=ac (λ_ _ h=>ArA.kt (ri3.kp.kt o4) h) py;lk;refine vz (SqL.of nl4) λli hli=>?_;rw[wM (by rw[Qd];omega),<-List.map_take];generalize hE:upd H4 li _=H5;obtain⟨S5,q5⟩:=aj hli hE;have nl5:=S5 _ _ nl4;lk;refine vz (SqL.of nl5) λlo hlo=>?_;rw[tm (by rw[Qd];omega),<-List.map_drop];generalize hE:upd H5 lo _=H6;obtain⟨S6,q6⟩:=aj hlo hE;lk;refine⟨by simp[sizeLine],λa h7=>?_⟩;generalize hE:upd H6 a _=H7;obtain⟨S7,q7⟩:=aj h7 hE;have S47:=(S5.trans S6).trans S7;have kp7:=kp4.trans (Kp.of kp4.dk S47);have ews:(⟨ws.take j,ws.drop j,z,ps.map (lT kvs)⟩:Rg).ws=ws:=List.take_append_drop _ _;refine k a li lo La ys ⟨ws.take j,ws.drop j,z,ps.map (lT kvs)⟩ H7 (kp7.up (by omega)) (λb hb=>?_) ⟨q7,S7 _ _ (S6 _ _ q5),S7 _ _ q6,S47 _ _ hya,ac (λ_ _ h=>h.kt (ak.tups S47)) py4⟩ ⟨?_,?_,?_,?_,?_,?_⟩ ?_
 ·simp only[Qh,QA,Xk]at hb;rcases hb with rfl|rfl|rfl|rfl
  ·exact kp4.free (bx (S5.trans S6) h7)
  ·exact kp4.free hli
  ·exact kp4.free (bx S5 hlo)
  exact hLaH
 ·rw[ews];exact wnd
 ·rw[ews];exact w1
 ·rw[ews];exact w5
 ·rw[ews];exact st
 ·show (ps.map _).length<=_;rw[Qd];omega
 ·rw[ews];intro x hx;obtain⟨q,hq,rfl⟩:=Qj.mp hx;obtain⟨pok,_,hm⟩:=k7 ri.md (hk q hq);exact⟨pok.o,pok.t,pok.ne,hm⟩
 intro t ht;rw[ews]at ht;obtain⟨q,h1,h2⟩:=inc t (cR.mpr ht);obtain⟨q',hq',e⟩:=Qj.mp (pm.mem_iff.mpr h1);exact⟨lT kvs q',Qj.mpr ⟨q',hq',rfl⟩,by rw[<-ji e]at h2;exact h2⟩
end
def nV (K:PySem.W.Frag) (TL:Addr):Sp:=λvs H Q _=>∃(a:Addr) (ns:List Int),vs=[.ref a]/\SqL K H a (ns.map V.int)/\ns.length<=63/\bT TL aW H/\∀H',Q (.bl true) H'
theorem pA {K:PySem.W.Frag} {D':Dk} {xs:List V} (h:SqL K H0 a xs) (q:∀o,H0 a=some o->H a=some o/\¬D'.own a) (tb:bT TL aW H) (k:Kt TL D' H H'):SqL K H' a xs:=by
 rcases h with h|h
 ·left
  rcases h with h|⟨o,h⟩
  ·exact .inl (k.old _ _ (q _ h).1 (q _ h).2 (dq tb (q _ h).1 λ_ z=>nomatch z))
  exact .inr ⟨o,k.old _ _ (q _ h).1 (q _ h).2 (dq tb (q _ h).1 λ_ z=>nomatch z)⟩
 exact .inr h
section
theorem vU:FnScope ["script", "k", "pool", "ring", "found", "turn"] ["script"] (ax (top 31)):=by fin2
theorem rV {TL:Addr} {f:Addr} {fd:FuncData} (Fu:Fun K "law" "law" (top 31) f fd) (T:Txt K mg TT) (f_law_pool:Fn P w K mg base "_law_pool" ["script", "k"] 1 (qP K)) (f_law_ring:Fn P w K mg base "_law_ring" ["pool"] 3 qO) (f_unfolded:Fn P w K mg base "unfolded" ["ring_sheet"] 5 vb) (f_law_take:Fn P w K mg base "_law_take" ["pool", "many"] 1 dU) (f_law_walk:Fn P w K mg base "_law_walk" ["pool", "ring", "sheet", "many"] 5 (nW TL)) (f_law_round:Fn P w K mg base "_law_round" ["ring", "sheet"] 5 ki):FnOk P w K mg base CX0 7 f fd ["script"] (nV K TL):=by
 have S:=vU;refine Fu.ok S (by room) (λcdv A outer s H vs Q E hr h=>?_);obtain⟨sc,cells,rfl,hS,hlen,tb,k⟩:=h;refine'⟨?_,?bb,?_⟩
 case bb =>
  walk_at "b";walk_at "f";exact(cB (by rfl) T.n_range (aa (aM (qg rfl) (by rfl) T.n_max PyProof.Rows.boot_max (aa af (aa (aM (i6 rfl) (by rfl) T.n_min PyProof.Rows.boot_min (aa af (aa (aM aK (by rfl) T.n_len Xa (aa (pv 0) ad ae)) ad aZ) aL)) ad aZ) aL)) ad aZ));exact(bv 1 S.nd);walk_at "p";exact ay 2 S.nd (aP f_law_pool hr (aa (pv 0) (aa (pv 1) ad ae) ae));exact ay 3 S.nd (aP f_law_ring hr (aa (pv 2) ad ae));exact ay 4 S.nd (aP f_unfolded hr (aa (pv 3) ad ae));exact(aD dP (aq az (pv 4) af) bc (aG _));walk_at "f";exact(cB (by rfl) T.n_range (aa af ad aL));exact(bv 5 S.nd);walk_at "p";exact(rg (mC (aP f_law_walk hr (aa (pv 2) (aa (pv 3) (aa (aq az (pv 4) af) (aa (aF bV af (aP f_law_take hr (aa (pv 2) (aa af ad aL) ae))) ad)) ae) ae))));exact(aU fg);exact(rg (mC (aP f_law_round hr (aa (pv 3) (aa (aq az (pv 4) af) ad) ae))));exact(aU fg);exact(aU fg)
 x_go;lk;refine⟨_,_,rfl,Or.inl hS,?_⟩;lk;refine⟨_,_,rfl,?_⟩;lk;refine⟨_,_,rfl,?_⟩;rw[Qd]
 obtain⟨N,hN,N6⟩:∃N:Nat,(if (if (cells.length:Int)<4 then (cells.length:Int) else 4)>1 then (if (cells.length:Int)<4 then (cells.length:Int) else 4) else 1)=(N:Int)/\N<=4:=by
  by_cases h2:(cells.length:Int)<4
  ·rw[Qt h2];by_cases h1:(cells.length:Int)>1
   ·rw[Qt h1];exact⟨cells.length,rfl,by omega⟩
   rw[Qr h1];exact⟨1,rfl,by omega⟩
  rw[Qr h2,Qt (by decide)];exact⟨4,rfl,by omega⟩
 rw[hN];lk;refine⟨by omega,by omega,?_⟩;rw[QX];let I27:IvF:=λi U H'=>(∃x1 x2 x3 x4 x5,U=[some (.ref sc),x1,x2,x3,x4,x5])/\SqL K H' sc (cells.map V.int)/\bT TL aW H';refine dw (n:=N) I27 ⟨⟨_,_,_,_,_,rfl⟩,hS,tb⟩ (λi U H0 hi pv=>?_) (λU H' pv=>?_)
 ·clear hS tb;obtain⟨⟨x1,x2,x3,x4,x5,rfl⟩,hS,tb⟩:=pv;refine aw ?_;lk;refine⟨sc,cells,i,by rw[Int.zero_add],hS,by omega,λD H1 dn S1 D0 DA1=>?_⟩;lk;refine⟨D,rfl,DA1,by omega,λa li lo l as r H2 k2 _ at2 ok full=>?_⟩;have tb2:=u6 (eC tb S1) DA1 k2 rfl;have hS2:SqL K H2 sc (cells.map V.int):=jm hS λo e=>k2.old _ _ (S1 _ _ e) (λz=>am e D0 z);have DA2:=k2.dk;have q2:∀o,H0 sc=some o->H2 sc=some o/\sc≠D.d:=λo e=>⟨k2.old _ _ (S1 _ _ e) (λz=>am e D0 z),am e D0⟩;clear k2 S1 DA1 tb;lk;refine⟨a,li,lo,l,as,r,rfl,at2,ok,λvd ts H3 S3 wt rd=>?_⟩;have at3:=at2.same S3;have DA3:=DA2.same S3;have tb3:=eC tb2 S3;have hS3:SqL K H3 sc (cells.map V.int):=jm hS2 λo e=>S3 _ _ e;clear hS2 tb2 DA2 at2
  cases eU:unf r ts with
  | odd way word =>
   rw[eU]at rd;obtain⟨fa,fl,rfl,hfa,_⟩:=rd;lk;refine ifF (Qv (λz=>by have:=V.str.inj z;revert this;decide +kernel)) (s_next ⟨⟨_,_,_,_,_,rfl⟩,hS3,tb3⟩)
  | many =>
   rw[eU]at rd;obtain⟨fa,rfl,hfa⟩:=rd;lk;refine ifF (Qv (λz=>by have:=V.str.inj z;revert this;decide +kernel)) (s_next ⟨⟨_,_,_,_,_,rfl⟩,hS3,tb3⟩)
  | sheet nds =>
  rw[eU]at rd;obtain⟨ps,sp⟩:=pd ok wt eU;obtain⟨fa,s,sli,slo,sln,nas,rfl,hfa,sa,_,_⟩:=pC rd;lk;refine ifT (Qx rfl) ?_;lk;refine⟨by omega,by omega,?_⟩;rw[show ((6:Int)).toNat=6 from rfl];let I28:IvF:=λj U H'=>(∃x5,U=[some (.ref sc),some (.int (0+(i:Int))),some (.ref D.d),some (.ref a),some (.ref fa),x5])/\Kt TL (D.more (1000+41*j)) H3 H';refine dw (n:=6) I28 ⟨⟨_,rfl⟩,(Kt.of_kp tb3 DA3 (Kp.of DA3 (ak.refl _))).le (by show D.n+1000<=D.n+(1000+41*0);omega)⟩ (λj U H' hj pv=>?_) (λU H' pv=>?_)
  ·obtain⟨⟨x5,rfl⟩,kt⟩:=pv;have hfa':=kt.tups DA3 tb3 rfl _ _ hfa;refine aw ?_;lk;refine⟨D.more (1000+41*j),30,rfl,kt.dk,(by show D.n+(1000+41*j)<100000;omega),by omega,by omega,λm H4 m0 m1 k4=>?_⟩;obtain⟨m',rfl⟩:∃m':Nat,m=(m':Int):=⟨m.toNat,by omega⟩;have kt4:Kt TL (D.more (1000+41*j+1)) H3 H4:=kt.trans (Kt.of_kp kt.tab (kt.dk.le (D':=(D.more (1000+41*j)).more 1) (XN _)) k4);lk;refine⟨D.more (1000+41*j+1),a,li,lo,l,as,r,s,sli,slo,sln,nas,ts,ps,nds,m'+1,by rw[show (1:Int)+(m':Int)=((m'+1:Nat):Int) by omega];rfl,kt4.dk,(by show D.n+(1000+41*j+1)<50000;omega),at3.ktt DA3 tb3 kt4,ok,full,sa.ktt DA3 tb3 kt4,sp,wt,kt4.tab,by omega,λH5 kt5=>?_⟩;refine⟨_,rfl,ifF rfl (s_next ⟨⟨_,rfl⟩,(kt4.trans kt5).le (by show D.n+(1000+41*j+1)+40<=D.n+(1000+41*(j+1));omega)⟩)⟩
  obtain⟨⟨x5,rfl⟩,kt⟩:=pv;have hfa':=kt.tups DA3 tb3 rfl _ _ hfa;lk;refine⟨a,li,lo,l,as,r,s,sli,slo,sln,nas,ts,ps,nds,rfl,at3.ktt DA3 tb3 kt,ok,full,sa.ktt DA3 tb3 kt,sp,wt,λH5 S5=>?_⟩;refine⟨_,rfl,ifF rfl (s_next ⟨⟨_,_,_,_,_,rfl⟩,jm (pA (D':=D.more (1000+41*6)) hS (λo e=>⟨S3 _ _ (q2 o e).1,(q2 o e).2⟩) tb3 kt) λo e=>S5 _ _ e,eC kt.tab S5⟩)⟩
 obtain⟨⟨x1,x2,x3,x4,x5,rfl⟩,_⟩:=pv;lk;exact k H'
end
end K2
namespace K2
open PySem L2 PySem.Spec PyProof.Rows
variable {A:Type}
theorem si {us:List A} (h:us.length=1):∃a0,us=[a0]:=by
 match us,h with
 | [a0],_=>exact⟨_,rfl⟩
theorem xQ {us:List A} (h:us.length=2):∃a0 a1,us=[a0,a1]:=by
 match us,h with
 | [a0,a1],_=>exact⟨_,_,rfl⟩
theorem xP {us:List A} (h:us.length=3):∃a0 a1 a2,us=[a0,a1,a2]:=by
 match us,h with
 | [a0,a1,a2],_=>exact⟨_,_,_,rfl⟩
theorem xO {us:List A} (h:us.length=4):∃a0 a1 a2 a3,us=[a0,a1,a2,a3]:=by
 match us,h with
 | [a0,a1,a2,a3],_=>exact⟨_,_,_,_,rfl⟩
structure FX (K:PySem.W.Frag) (n:Str) (i:Nat) (f:Addr) (cd:Value):Prop where
 a:PySem.W.nsIn K mainGlobals n=some (some (.ref f))
 l:∃oc od kV dc pm an ct sl,K.lookup f=some ⟨oc,od,.func (PySem.W.fnOf n n (cH (top i)) (bP (top i)) (ax (top i)) .none kV dc pm an cd ct),sl⟩
 c:PySem.W.codeIn K cd n=true
 k:PySem.W.keepIn K (.ref f)=true
variable {f fa TL0:Addr}
theorem FX.fn {K:PySem.W.Frag} {n:Str} {i:Nat} {cd:Value} {h:Heap} {mg:A2} (X:K.In h) (G:h.Ns mainGlobals mg) (x:FX K n i f cd):∃fd,Fun K n n (top i) f fd/\mg n=some (.ref f):=by
 obtain⟨a,⟨_,_,_,_,_,_,_,_,l⟩,c,k⟩:=x;exact⟨_,mX (st:=top i) l c k,PySem.W.mg_of X G a⟩
abbrev ZN (K:PySem.W.Frag) (n:Str):Prop:=PySem.W.nsIn K mainGlobals n=some none
theorem bn1 {p:List Value->Prop} (h:∀a0,p [a0]) (us:List Value) (hl:us.length=1):p us:=by
 obtain⟨a0,e⟩:=si hl;subst e;exact h a0
theorem bn2 {p:List Value->Prop} (h:∀a0 a1,p [a0,a1]) (us:List Value) (hl:us.length=2):p us:=by
 obtain⟨a0,a1,e⟩:=xQ hl;subst e;exact h a0 a1
theorem bn3 {p:List Value->Prop} (h:∀a0 a1 a2,p [a0,a1,a2]) (us:List Value) (hl:us.length=3):p us:=by
 obtain⟨a0,a1,a2,e⟩:=xP hl;subst e;exact h a0 a1 a2
theorem bn4 {p:List Value->Prop} (h:∀a0 a1 a2 a3,p [a0,a1,a2,a3]) (us:List Value) (hl:us.length=4):p us:=by
 obtain⟨a0,a1,a2,a3,e⟩:=xO hl;subst e;exact h a0 a1 a2 a3
theorem FX.go (P:Program) (w:World) (base:Heap) {K:PySem.W.Frag} {n:Str} {i k:Nat} {cd:Value} {h:Heap} {mg:A2} {ps:List Str} {sp:Sp} (X:K.In h) (G:h.Ns mainGlobals mg) (x:FX K n i f cd) (o:∀fd,Fun K n n (top i) f fd->mg n=some (.ref f)->ik K fd ps []->FnOk P w K mg base CX0 k f fd ps sp)
  (hb:∀(kV doc pm:Value) (an:Option Addr) (cdv ct:Value) (us:List Value),us.length=ps.length->bindArgs (PySem.W.fnOf n n (cH (top i)) (bP (top i)) (ax (top i)) .none kV doc pm an cdv ct) ⟨us,[]⟩=pure (ps.zip us):=by intro _ _ _ _ _ _;first|exact bn1 λ_=>rfl|exact bn2 λ_ _=>rfl|exact bn3 λ_ _ _=>rfl|exact bn4 λ_ _ _ _=>rfl):Fn P w K mg base n ps k sp:=by
 obtain⟨fd,F,m⟩:=x.fn X G;have b:=F.binds hb;exact⟨f,fd,o fd F m b,m,x.k,b⟩
theorem wR {l:PySem.W.OpenLaw} {w:World} {K:PySem.W.Frag} {h:Heap} {mg:A2} (X:K.In h) (G:h.Ns mainGlobals mg) (hfa:mg "law" = some (.ref fa))
  (aT:PySem.W.nsIn K mainGlobals "TURNED" = some (some (.ref 15))) (tab:iE K 15 [("0", .flat (.str "1")),("1", .flat (.str "0"))])
  (aS:PySem.W.nsIn K mainGlobals "SIGNS_AHEAD" = some (some (.ref 49))) (tabS:iE K 49 [("+", .flat (.str "0")),("-", .flat (.str "1"))])
  (cn0:PySem.W.nsIn K mainGlobals "MOST_NODES" = some (some (.int 40 223)))
  (x0:FX K "turned_at" 2 22 (.ref 21)) (x1:FX K "found_from" 4 29 (.ref 28)) (x2:FX K "row_behind" 7 36 (.ref 35)) (x3:FX K "rows_found" 8 43 (.ref 42))(h3:PySem.W.codeHdIn K 42 38=true) (x4:FX K "signs_of" 9 48 (.ref 47)) (x5:FX K "waiting_turns" 12 54 (.ref 53)) (x6:FX K "first_marks" 13 59 (.ref 58)) (x7:FX K "may_come" 14 64 (.ref 63)) (x8:FX K "mark_behind" 15 71 (.ref 70)) (x9:FX K "marks_behind" 16 76 (.ref 75)) (x10:FX K "steps_at" 17 83 (.ref 82)) (x11:FX K "odd_word" 18 90 (.ref 89)) (x12:FX K "unfolded" 19 97 (.ref 96)) (x13:FX K "_law_pool" 21 104 (.ref 103)) (x14:FX K "_law_take" 22 111 (.ref 110)) (x15:FX K "_law_names" 23 116 (.ref 115)) (x16:FX K "_law_order" 24 123 (.ref 122)) (x17:FX K "_law_arcs" 25 128 (.ref 127)) (x18:FX K "_law_ring" 26 133 (.ref 132)) (x19:FX K "_law_may" 27 138 (.ref 137)) (x20:FX K "_law_behind" 28 145 (.ref 144)) (x21:FX K "_law_walk" 29 150 (.ref 149)) (x22:FX K "_law_round" 30 155 (.ref 154)) (x23:FX K "law" 31 162 (.ref 161))
  (z0:ZN K "len") (z1:ZN K "range") (z2:ZN K "max") (z3:ZN K "min") (z4:ZN K "int") (z5:ZN K "list") (z6:ZN K "str") (z7:ZN K "isinstance") (z8:ZN K "all") (z9:ZN K "set") (z10:ZN K "dict") (z11:ZN K "enumerate") (z12:ZN K "sorted") (z13:ZN K "tuple") (z14:ZN K "bool") (z15:ZN K "zip") (z16:ZN K "reversed")
  : ∃fd:FuncData,(∀(s:Shared) (v:Value),BindsTo s fd ⟨[v],[]⟩ [("script", v)])/\∀base:Heap,K.In base->base.Ns mainGlobals mg->L2.eT base mg->FnOk l.prog w K mg base CX0 7 fa fd ["script"] (nV K 38):=by
 have e:=hfa.symm.trans (PySem.W.mg_of X G x23.a);cases e;have T:Txt K mg 15:=⟨QS X G z0,QS X G z1,QS X G z2,QS X G z3,QS X G z4,QS X G z5,QS X G z6,QS X G z7,QS X G z8,QS X G z9,QS X G z10,QS X G z11,QS X G z12,QS X G z13,QS X G z14,QS X G z15,QS X G z16,⟨_,PySem.W.mg_of X G cn0⟩,⟨_,PySem.W.mg_of X G aS,tabS⟩,PySem.W.mg_of X G aT,tab⟩;obtain⟨a3,⟨_,_,_,_,_,_,_,_,l3⟩,c3,k3⟩:=x3;have m3:=PySem.W.mg_of X G a3;have F3:=mX (st:=top 8) l3 c3 k3;have b3:=F3.binds (ps:=["sheet"]) λ_ _ _ _ _ _ us hl=>by obtain⟨_,rfl⟩:=si hl;rfl
 obtain⟨a23,⟨_,_,kV,dc,pm,an,ct,_,l23⟩,c23,k23⟩:=x23;have m23:=PySem.W.mg_of X G a23;have F23:=mX (st:=top 31) l23 c23 k23;have b23:=F23.binds (ps:=["script"]) λ_ _ _ _ _ _ us hl=>by obtain⟨_,rfl⟩:=si hl;rfl
 refine⟨PySem.W.fnOf "law" "law" (cH (top 31)) (bP (top 31)) (ax (top 31)) .none kV dc pm an (.ref 161) ct,λs v=>.of_eq rfl,λbase KB _ BM=>?_⟩;have CT0:=PySem.W.codeHd_of_K KB h3;have FC3:FunC K "rows_found" "rows_found" (top 8) 43 _ 42:=⟨_,_,_,_,_,_,_,_,rfl,l3,c3⟩;have g13:=x13.go l.prog w base X G λ_ F _ _=>ud F T;have g14:=x14.go l.prog w base X G λ_ F _ _=>t_ F T;have g15:=x15.go l.prog w base X G λ_ F _ _=>pH F T g14;have g16:=x16.go l.prog w base X G λ_ F _ _=>rR F T g14;have g17:=x17.go l.prog w base X G λ_ F _ _=>ug F T g14;have g18:=x18.go l.prog w base X G λ_ F _ _=>ub F T g14 g15 g16 g17;have g6:=x6.go l.prog w base X G λ_ F _ _=>rX F T;have g5:=x5.go l.prog w base X G λ_ F _ _=>t9 F T;have g7:=x7.go l.prog w base X G λ_ F _ _=>wr F T;have g8:=x8.go l.prog w base X G λ_ F _ _=>ue F T;have g9:=x9.go l.prog w base X G λ_ F _ _=>rS F T g8;have g0:=x0.go l.prog w base X G λ_ F _ _=>pG F T;have g2:=x2.go l.prog w base X G λ_ F _ _=>pJ F T g0;have g10:=x10.go l.prog w base X G λ_ F _ _=>rP F T g5 g7 g9 g2;have g11:=x11.go l.prog w base X G λ_ F _ _=>wq F T;have g12:=x12.go l.prog w base X G λ_ F _ _=>wo F T g6 g10 g11;have g1:=x1.go (sp:=(jn l.prog w K mg base 1)) l.prog w base X G λ_ F _ _=>rW F T;have g2qS:=x2.go l.prog w base X G λ_ F _ _=>mH F T g0;have g3:Fn l.prog w K mg base "rows_found" ["sheet"] 3 (mj 38):=⟨_,_,ua FC3 T CT0 BM g1 g2qS,m3,k3,b3⟩;have g4:=x4.go l.prog w base X G λ_ F _ _=>rQ F T g3;have g19:=x19.go l.prog w base X G λ_ F _ _=>uf F T;have g20:=x20.go l.prog w base X G λ_ F _ _=>mG F T;have g21:=x21.go l.prog w base X G λ_ F _ _=>rT F T g4 g19 g20 g14;have g22:=x22.go l.prog w base X G λ_ F _ _=>pI F T g19 g20;exact rV F23 T g13 g18 g12 g14 g21 g22
theorem yn {l:PySem.W.OpenLaw} {q:Program} {loose:List Str} {XP:A2->Heap->Prop} {d:DefRec} {K:Params->PySem.W.Frag} {as:A3} {e:∀P,as=(K P).map (·.1)} (hn:l.most=some 63) (hdf:d.params.defaults=[]) (ok:∀w:World,fo (K w.params) [TL0]=true)
  (F:∀(w:World) (mg:A2) (fa:Addr) (h:Heap),(K w.params).In h->h.Ns mainGlobals mg->mg d.name=some (.ref fa) ->
   ∃fd:FuncData,(∀(s:Shared) (u:Value),BindsTo s fd ⟨[u],[]⟩ [("script", u)])/\∀base:Heap,(K w.params).In base->base.Ns mainGlobals mg->L2.eT base mg->FnOk l.prog w (K w.params) mg base CX0 7 fa fd ["script"] (nV (K w.params) TL0)) :
  PySem.W.WalkO q loose XP (PySem.W.kmHook K as e [TL0]).says l.row.toRowW d [] (λf vs=>PySem.call f vs) :=
 L2.qq (n:=63) (k:=7) (x := "script") (CX:=λ_=>CX0) (sp:=λw=>nV (K w.params) TL0) hn (by decide) hdf ⟨rfl,by decide,by decide⟩ ok F (λ_ _ a ns hl hT hS=>⟨a,ns,rfl,hS,hl,(.inl (hT _ (by simp))),λ_=>rfl⟩) λ_ _ _ _ _ z=>z
end K2
open PySem PySem.W PyProof.Rows
set_option maxRecDepth 100000 in
set_option maxHeartbeats 0 in
theorem PySem.Challenge.cw_anydelay_k54_whole_turns_by_marks_holds : PySem.Challenge.rw_anydelay_k54_whole_turns_by_marks.Holds := by
 w_on;refine holds_law K2.sd λsaid=>?_
 refine holds_open (q:=K2.vw) (loose:=[("TURNED" : Str),("SIGNS_AHEAD" : Str)]) (Xt:=λs=>xlAt K2.vw [] s&&recOk (RowW.records PySem.Challenge.rw_anydelay_k54_whole_turns_by_marks.row.toRowW) s) (XP:=XL K2.vw []) (Yf:=Hook.obs K2.hk) (Ya:=Hook.val K2.hk) (YP:=Hook.says K2.hk) (N:=1828) K2.left (Hook.of K2.hk) (Hook.keeps K2.hk) (λs e=>xl_of s (Bool.and_eq_true_iff.mp e).1) XL.keeps (by rfl) (by rfl) (by rfl) (λs e=>recFacts_of (Bool.and_eq_true_iff.mp e).2) (by rfl) (by first|assumption|decide +kernel) (by decide +kernel) ⟨rfl,rfl,rfl,rfl,rfl,by decide +kernel⟩ ?hw ?hc
 (case hw=>w_witness2)
 refine K2.yn (l:=PySem.Challenge.rw_anydelay_k54_whole_turns_by_marks) (K:=K2.KF) (as:=[3,15,21,22,28,29,35,36,42,43,47,48,49,53,54,58,59,63,64,70,71,75,76,82,83,89,90,96,97,103,104,110,111,115,116,122,123,127,128,132,133,137,138,144,145,149,150,154,155,161,162]) (e:=λ_=>rfl) rfl rfl (λw=>by kernel_rfl) ?F
 case F =>
  intro w mg fa h KX G hmg;refine' K2.wR KX G hmg ?_ ?_ ?_ ?_ ?_ ?_ ?_ ?_ ?_ ?_ ?_ ?_ ?_ ?_ ?_ ?_ ?_ ?_ ?_ ?_ ?_ ?_ ?_ ?_ ?_ ?_ ?_ ?_ ?_ ?_ ?_ ?_ ?_ ?_ ?_ ?_ ?_ ?_ ?_ ?_ ?_ ?_ ?_ ?_ ?_ ?_ ?_
  all_goals first|exact⟨by kernel_rfl,⟨_,_,_,_,_,_,_,_,rfl⟩,by kernel_rfl,by kernel_rfl⟩|kernel_rfl|rfl|decide|decide +kernel
