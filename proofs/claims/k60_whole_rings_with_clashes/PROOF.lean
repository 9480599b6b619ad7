import PyProof.Rows.All
import Wide.All
import OpenK.AllK
import Wide.FinOn
import Lean
import PyProof.EqAt
import PyProof.EqKinds
import PyProof.TupleCall
import PyProof.NeKinds
import KE.KTabLook
import KE.KIntText
import KE.KUnpack
import PyProof.StrBlock2
import KE.KLam
import KE.KDictLaws
import PyProof.DictWalks
import PyProof.Rows.StrInSeq3
import PyProof.FactsAll.list_1
import PyProof.Rows.SortShellK
import PyProof.Rows.SortKeyStr
import KE.KSortTup
import KE.KDictSum
import KE.KItemsList
import PyProof.Rows.SortStr
import PyProof.ZipIter
import PyProof.Draws
import PyProof.AttrMissHeap
import PyProof.DictUpdate
import PyProof.ListNew
import PyProof.FactsAll.dict_1
import PyProof.Rows.DictSet
import PyProof.ForAppend
import KE.KDictList
import PyProof.TupleIter
import PyProof.CompUse
import PyProof.EnumMake
import PyProof.Rows.CallKwBuiltin
import OpenK.KMore
import PyProof.SeqWrite
import PyProof.FactsAll.list_4
import PyProof.AutoListH
import PySem.Challenge.RW_anydelay_k60_whole_rings_with_clashes
namespace PySem
abbrev A0:=Value->Shared->Prop
abbrev A1:=List (Addr × Obj)
abbrev A2:=Str->Option Value
abbrev A3:=List Addr
end PySem
set_option linter.all false
set_option maxRecDepth 100000
set_option Elab.async false
abbrev Qa:=@PySem.wpAny_bind
abbrev Qb:=@List.getElem?_eq_getElem
abbrev Qc:=@List.getElem?_eq_some_iff
abbrev Qd:=@List.length_map
abbrev Qe:=@PySem.Heap.get?_push_of_some
abbrev Qf:=@PySem.wpAny_pure
abbrev Qg:=@Nat.le_refl
abbrev Qh:=@List.mem_of_getElem?
abbrev Qi:=@List.length_append
abbrev Qj:=@List.mem_cons
abbrev Qk:=@List.size_toArray
abbrev Ql:=@List.mem_map
abbrev Qm:=@Array.length_toList
abbrev Qn:=@if_neg
abbrev Qo:=@List.getD_eq_getElem?_getD
abbrev Qp:=@List.mem_cons_of_mem
abbrev Qq:=@List.getElem?_map
abbrev Qr:=@Bool.false_ne_true
abbrev Qs:=@if_pos
abbrev Qt:=@PySem.Heap.lt_size
abbrev Qu:=@decide_eq_true
abbrev Qv:=@List.mem_singleton
abbrev Qw:=@decide_eq_false
abbrev Qx:=@List.map_cons
abbrev Qy:=@PySem.Heap.get?_push_size
abbrev Qz:=@List.mem_append
abbrev QA:=@List.idxOf_lt_length_of_mem
abbrev QB:=@PySem.F.plainAttrs_list
abbrev QC:=@Option.some.inj
abbrev QE:=@List.not_mem_nil
abbrev QF:=@Nat.ne_of_lt
abbrev QG:=@List.getElem?_append_left
abbrev QH:=@Bool.false_eq_true
abbrev QI:=@List.mem_append_right
abbrev QJ:=@List.getElem?_append_right
abbrev QK:=@List.length_singleton
abbrev QL:=@Array.getElem?_eq_getElem
abbrev QM:=@Nat.le_add_right
abbrev QN:=@List.length_take
abbrev QO:=@Nat.lt_of_lt_of_le
abbrev QP:=@List.mem_filter
abbrev QQ:=@Nat.le_trans
abbrev QR:=@List.mem_range
abbrev QS:=@List.nodup_cons
abbrev QT:=@Nat.zero_le
abbrev QU:=@List.getElem?_eq_none
abbrev QV:=@PySem.boot_len
abbrev QW:=@List.getElem_mem
abbrev QX:=@List.all_eq_true
abbrev QY:=@Array.getD_eq_getD_getElem?
abbrev QZ:=@List.map_append
abbrev Q0:=@PySem.W.mg_none_of
abbrev Q2:=@Int.toNat_natCast
abbrev Q3:=@List.length_range
abbrev Q4:=@PySem.F.slot_list_append
abbrev Q5:=@PySem.F.type_list_append
abbrev Q6:=@List.lookup_cons
abbrev Q7:=@Array.getElem?_toList
abbrev Q8:=@List.take_of_length_le
abbrev Q9:=@PySem.wpAny_call_entry
abbrev Xa:=@List.mem_append_left
abbrev Xb:=@PySem.F.slot_list_index
abbrev Xc:=@PySem.F.type_list_index
abbrev Xd:=@List.getElem?_eq_none_iff
abbrev Xe:=@List.getElem_of_mem
abbrev Xf:=@PySem.wpAny_holding
abbrev Xg:=@PySem.Heap.get?_update_self
abbrev Xh:=@PySem.Heap.SameBut.update
abbrev Xi:=@or_false
abbrev Xj:=@PySem.Heap.get?_update_other
abbrev Xk:=@PySem.Paired.length
abbrev Xl:=@List.getElem?_of_mem
abbrev Xm:=@List.length_cons
abbrev Xo:=@List.pairwise_map
abbrev Xp:=@List.mem_cons_self
abbrev Xq:=@PySem.wpAny_callSpecial?_slot
abbrev Xr:=@Bool.and_eq_true
abbrev Xs:=@decide_eq_decide
abbrev Xu:=@Option.map_eq_some_iff
abbrev Xv:=@of_decide_eq_true
abbrev Xw:=@List.map_map
abbrev Xx:=@PySem.wpAny_setState_of
abbrev Xy:=@PySem.Heap.size_push
abbrev Xz:=@PyProof.Rows.callWith_type1
abbrev XA:=@if_false
abbrev XB:=@List.length_drop
abbrev XC:=@List.nodup_append
abbrev XD:=@PySem.Around.under_plainId
abbrev XE:=@PySem.wpAny_field
abbrev XF:=@PySem.Obj.data_mapFields
abbrev XG:=@List.append_nil
abbrev XH:=@PySem.wpAny_seqItems
abbrev XI:=@List.take_succ
abbrev XJ:=@List.map_congr_left
abbrev XM:=@PySem.wpAny_newObj_type
abbrev XN:=@List.append_assoc
abbrev XO:=@Nat.lt_of_le_of_lt
abbrev XQ:=@PySem.sizeLine_eq
abbrev XR:=@PySem.wpAny_setField_rec
abbrev XS:=@List.getElem_idxOf
abbrev XT:=@Nat.le_of_lt
abbrev XU:=@List.getElem?_zip_eq_some
abbrev XV:=@PySem.wpAny_mono
abbrev XW:=@List.ext_getElem?
abbrev XX:=@List.take_append_drop
abbrev XY:=@PyProof.Rows.boot_int
abbrev XZ:=@Bool.not_true
abbrev X0:=@List.cons.injEq
abbrev X1:=@Bool.eq_iff_iff
abbrev X2:=@Nat.not_lt_zero
abbrev X3:=@PySem.codeAny_builtin
abbrev X4:=@PySem.F.slot_dict_keyiterator_next
abbrev X5:=@List.range_succ
abbrev X6:=@decide_eq_true_iff
abbrev X7:=@Nat.lt_irrefl
local macro_rules|`(tactic|z_go)=>`(tactic|first|exact .inl rfl|exact .inr rfl|assumption)
noncomputable section
namespace L2
open PySem
def cL (s:Stmt):Arguments:=match s with
 | .FunctionDef _ a _ _ _ _ _ _ _ _=>a
 | _=>{ posonlyargs:=[],args:=[],vararg:=none,kwonlyargs:=[],kw_defaults:=[],kwarg:=none,defaults:=[] }
def bV (s:Stmt):List Stmt:=match s with
 | .FunctionDef _ _ b _ _ _ _ _ _ _=>b
 | _=>[]
def aw (s:Stmt):Scope:=match s with
 | .FunctionDef _ _ _ _ _ _ sc _ _ _=>sc
 | _=>{ kind:=.function,names:=[],isGenerator:=false,isCoroutine:=false }
end L2
namespace K2
open PySem L2 PySem.W
def top (i:Nat):Stmt:=PySem.Challenge.pw_anydelay_k60_whole_rings_with_clashes.main.body.getD i (.Pass ⟨0,0,0,0⟩)
noncomputable def kC (n:Str) (t:Nat) (l a fl:Int) (r:Addr) (x y:Value) (z:Addr) (u:Nat):Obj:={ cls:=.type "code", data:=.fields #[.str n t,.str n (t+1),.str "/claim/cut.py" (t+2),.int l 0,.int a 0,.int 0 0,.int 0 0,.int 3 0,.ref r,.bool true,.int fl 0,.ref (r+1),.none,x,y,.ref z,.int u 0,.int l 0,.str "/claim/cut.py" (u+1)] }
noncomputable def kF (n:Str) (i:Nat) (m:Str) (t:Nat) (c:Addr):Obj:={ cls:=.type "function", data:=.func { name:=n,qualname:=n,params:=cL (top i),body:=.stmts (bV (top i)),scope:=aw (top i),globals:=3,closure:=[],defaults:=.none,kwdefaults:=.none,pyModule:=.str m t,code:=.ref c } }
def kE (P:Params) (x:Str) (t:Nat) (v:Value):DictEntry:={ hash:=PyData.keyHash P x,key:=.str x t,val:=v }
noncomputable def KF (P:Params):Frag:=[(3,{ cls:=.type "dict", data:=.dict #[kE P "__name__" 165 (.str "law_anydelay_k60_whole_rings_with_clashes" 346),kE P "__doc__" 166 .none,kE P "__package__" 167 .none,kE P "__loader__" 168 (.builtin "__main__.__loader__#opaque"),kE P "__spec__" 169 .none,kE P "__annotations__" 170 (.ref 6),kE P "__builtins__" 171 (.ref 4),kE P "__file__" 173 (.str "/claim/cut.py" 172),kE P "__cached__" 174 .none,kE P "TURNED" 195 (.ref 15),kE P "turned_at" 203 (.ref 22),kE P "found_from" 220 (.ref 29),kE P "MOST_NODES" 224 (.int 40 223),kE P "row_behind" 233 (.ref 36),kE P "rows_found" 246 (.ref 43),kE P "signs_of" 252 (.ref 48),kE P "outputs_wanted" 260 (.ref 53),kE P "clash_pairs" 266 (.ref 58),kE P "SIGNS_AHEAD" 275 (.ref 59),kE P "waiting_turns" 281 (.ref 64),kE P "first_marks" 287 (.ref 69),kE P "may_come" 293 (.ref 74),kE P "mark_behind" 302 (.ref 81),kE P "marks_behind" 308 (.ref 86),kE P "steps_at" 319 (.ref 93),kE P "odd_word" 330 (.ref 100),kE P "unfolded" 345 (.ref 107),kE P "_law_pool" 356 (.ref 114),kE P "_law_take" 367 (.ref 121),kE P "_law_names" 373 (.ref 126),kE P "_law_order" 383 (.ref 133),kE P "_law_arcs" 389 (.ref 138),kE P "_law_ring" 395 (.ref 143),kE P "_law_ringed" 401 (.ref 148),kE P "_law_ring_right" 407 (.ref 153),kE P "law" 427 (.ref 160)] 36 }),
 (15,{ cls:=.type "dict", data:=.dict #[kE P "0" 189 (.str "1" 190),kE P "1" 191 (.str "0" 192)] 2 }),
 (21,kC "turned_at" 196 3 2 181 16 (.ref 18) (.ref 19) 20 201),
 (22,kF "turned_at" 2 "anydelay.nets" 187 21),
 (28,kC "found_from" 206 6 2 181 23 (.ref 25) (.ref 26) 27 218),
 (29,kF "found_from" 4 "anydelay.orders" 204 28),
 (35,kC "row_behind" 225 23 3 181 30 (.ref 32) (.ref 33) 34 231),
 (36,kF "row_behind" 7 "anydelay.sheets" 221 35),
 (42,kC "rows_found" 234 25 1 181 37 (.ref 39) (.ref 40) 41 244),
 (43,kF "rows_found" 8 "anydelay.sheets" 221 42),
 (47,kC "signs_of" 247 32 1 181 44 .none .none 46 250),
 (48,kF "signs_of" 9 "anydelay.sheets" 221 47),
 (52,kC "outputs_wanted" 255 36 2 181 49 .none .none 51 258),
 (53,kF "outputs_wanted" 11 "anydelay.clashes" 253 52),
 (57,kC "clash_pairs" 261 39 1 181 54 .none .none 56 264),
 (58,kF "clash_pairs" 12 "anydelay.clashes" 253 57),
 (59,{ cls:=.type "dict", data:=.dict #[kE P "+" 269 (.str "0" 270),kE P "-" 271 (.str "1" 272)] 2 }),
 (63,kC "waiting_turns" 276 50 1 181 60 .none .none 62 279),
 (64,kF "waiting_turns" 15 "anydelay.turnsheets" 267 63),
 (68,kC "first_marks" 282 52 1 181 65 .none .none 67 285),
 (69,kF "first_marks" 16 "anydelay.turnsheets" 267 68),
 (73,kC "may_come" 288 54 3 181 70 .none .none 72 291),
 (74,kF "may_come" 17 "anydelay.turnsheets" 267 73),
 (80,kC "mark_behind" 294 56 3 181 75 (.ref 77) (.ref 78) 79 300),
 (81,kF "mark_behind" 18 "anydelay.turnsheets" 267 80),
 (85,kC "marks_behind" 303 60 3 181 82 .none .none 84 306),
 (86,kF "marks_behind" 19 "anydelay.turnsheets" 267 85),
 (92,kC "steps_at" 309 62 2 181 87 (.ref 89) (.ref 90) 91 317),
 (93,kF "steps_at" 20 "anydelay.turnsheets" 267 92),
 (99,kC "odd_word" 320 69 3 181 94 (.ref 96) (.ref 97) 98 328),
 (100,kF "odd_word" 21 "anydelay.turnsheets" 267 99),
 (106,kC "unfolded" 331 75 1 181 101 (.ref 103) (.ref 104) 105 343),
 (107,kF "unfolded" 22 "anydelay.turnsheets" 267 106),
 (113,kC "_law_pool" 348 97 2 181 108 (.ref 110) (.ref 111) 112 354),
 (114,kF "_law_pool" 24 "law_anydelay_k60_whole_rings_with_clashes" 346 113),
 (120,kC "_law_take" 357 104 2 181 115 (.ref 117) (.ref 118) 119 365),
 (121,kF "_law_take" 25 "law_anydelay_k60_whole_rings_with_clashes" 346 120),
 (125,kC "_law_names" 368 115 2 181 122 .none .none 124 371),
 (126,kF "_law_names" 26 "law_anydelay_k60_whole_rings_with_clashes" 346 125),
 (132,kC "_law_order" 374 133 2 181 127 (.ref 129) (.ref 130) 131 381),
 (133,kF "_law_order" 27 "law_anydelay_k60_whole_rings_with_clashes" 346 132),
 (137,kC "_law_arcs" 384 139 3 181 134 .none .none 136 387),
 (138,kF "_law_arcs" 28 "law_anydelay_k60_whole_rings_with_clashes" 346 137),
 (142,kC "_law_ring" 390 153 1 181 139 .none .none 141 393),
 (143,kF "_law_ring" 29 "law_anydelay_k60_whole_rings_with_clashes" 346 142),
 (147,kC "_law_ringed" 396 175 3 181 144 .none .none 146 399),
 (148,kF "_law_ringed" 30 "law_anydelay_k60_whole_rings_with_clashes" 346 147),
 (152,kC "_law_ring_right" 402 181 3 181 149 .none .none 151 405),
 (153,kF "_law_ring_right" 31 "law_anydelay_k60_whole_rings_with_clashes" 346 152),
 (159,kC "law" 408 193 1 181 154 (.ref 156) (.ref 157) 158 425),
 (160,kF "law" 32 "law_anydelay_k60_whole_rings_with_clashes" 346 159)]
def hk:Hook:=kmHook KF [3,15,21,22,28,29,35,36,42,43,47,48,52,53,57,58,59,63,64,68,69,73,74,80,81,85,86,92,93,99,100,106,107,113,114,120,121,125,126,132,133,137,138,142,143,147,148,152,153,159,160] (λ_=>rfl) [38]
noncomputable def vw:Program:={ PySem.Challenge.pw_anydelay_k60_whole_rings_with_clashes with main:={ PySem.Challenge.pw_anydelay_k60_whole_rings_with_clashes.main with body:=[1,2,4,6,7,8,9,11,12,14,15,16,17,18,19,20,21,22,24,25,26,27,28,29,30,31,32].map top } }
def LW (w:World):Prop:=(openEnds treeTable PySem.Challenge.rw_anydelay_k60_whole_rings_with_clashes.prog w 1846).map (λs=>(openSeen vw [("TURNED" : Str),("SIGNS_AHEAD" : Str)] (importedModules PySem.Challenge.rw_anydelay_k60_whole_rings_with_clashes.prog.main.body) (λs=>xlAt vw [] s&&recOk (RowW.records PySem.Challenge.rw_anydelay_k60_whole_rings_with_clashes.row.toRowW) s) true s,Hook.obs hk s))=some (openGood vw [("TURNED" : Str),("SIGNS_AHEAD" : Str)],Hook.val hk w)
set_option maxHeartbeats 0 in
theorem sd:PySem.Challenge.rw_anydelay_k60_whole_rings_with_clashes.wellSaid=true:=by kernel_rfl
set_option maxHeartbeats 0 in
theorem zC:∀w:World,LW (w.withFollow "special-get-raises" false):=λw=>by unfold LW;kernel_rfl
set_option maxHeartbeats 0 in
theorem zB:∀w:World,LW (w.withFollow "special-get-raises" true):=λw=>by unfold LW;kernel_rfl
theorem left:LeftO PySem.Challenge.rw_anydelay_k60_whole_rings_with_clashes.prog vw [("TURNED" : Str),("SIGNS_AHEAD" : Str)] (λs=>xlAt vw [] s&&recOk (RowW.records PySem.Challenge.rw_anydelay_k60_whole_rings_with_clashes.row.toRowW) s) (Hook.obs hk) (Hook.val hk) 1846:=λw=>byRow2 (P:=LW) "special-get-raises" zC zB w
end K2
section
variable {a b c d e f g h i j k l m n x r lo:Nat}
local macro_rules | `(tactic|kd_p) => `(tactic| (intros; first | solve_by_elim (maxDepth := 3) [XT, QO, XO, QQ, Nat.lt_of_not_ge, Nat.lt_of_not_le, Nat.le_of_not_lt, Nat.ge_of_not_lt, QM, Nat.le_add_left, Nat.sub_le, Nat.lt_succ_self, Nat.le_succ, Nat.add_le_add_left, Nat.add_le_add_right, Nat.add_lt_add_left, Nat.add_lt_add_right, Nat.succ_le_of_lt, Nat.lt_of_succ_le, Nat.le_of_eq, Nat.le_antisymm, Nat.lt_of_le_of_ne, Qg, QT, Nat.sub_lt, Nat.succ_le_succ, Nat.lt_succ_of_le, Nat.le_of_lt_succ, Eq.symm, Eq.trans] | (subst_vars; solve_by_elim (maxDepth := 3) [XT, QO, XO, QQ, Nat.lt_of_not_ge, Nat.lt_of_not_le, Nat.le_of_not_lt, Nat.ge_of_not_lt, QM, Nat.le_add_left, Nat.sub_le, Nat.lt_succ_self, Nat.le_succ, Nat.add_le_add_left, Nat.add_le_add_right, Nat.add_lt_add_left, Nat.add_lt_add_right, Nat.succ_le_of_lt, Nat.lt_of_succ_le, Nat.le_of_eq, Nat.le_antisymm, Nat.lt_of_le_of_ne, Qg, QT, Nat.sub_lt, Nat.succ_le_succ, Nat.lt_succ_of_le, Nat.le_of_lt_succ, Eq.symm, Eq.trans])))
theorem om0:a<=b->¬a<b->a=b:=by grind
theorem om1:a-b<=a-b:=by simp_all
theorem om2:¬b<a->a<=b:=by kd_p
theorem om3:c=b->b=d->a<c->a<b:=by kd_p
theorem om4:c<=b->c=a->a<=b:=by kd_p
theorem om5:a+1≠a:=by simp_all
theorem om6:b<a->a-(b+1)<a-b:=by omega
theorem om7:c=d->c=a->d=b->a=b:=by kd_p
theorem om8:a+(c+1)<b->a<b:=by grind
theorem om9:b=c->b=d->c=e->a<d->a<b:=by intros;simp_all
theorem Ad:c=b->c=d->b=e->a<d->a<b:=by intros;simp_all
theorem zn:a+(b+1)<c->a+1+b<c:=by omega
theorem tM:b=c->a<c->a<b:=by kd_p
theorem zm:a<c->b=c->a<b:=by kd_p
theorem zk:c=a->d=b->c=d->a=b:=by kd_p
theorem qP:a+64<b->a<b:=by grind
theorem vA:a+64<b->a+1+8<b:=by grind
theorem tL:c=b->a<c->a<b:=by kd_p
theorem Ac:a<=b->a+1<=b+1:=by kd_p
theorem zj:a<=d+c->d<=b+1->a<=b+(c+1):=by grind
theorem zi:a<=a+1:=by simp
theorem zh:b-a=0->a<=b->a=b:=by grind
theorem zg:b-a=c+1->a<=b->a<b:=by grind
theorem ze:c<=b->a<=d->d<c->a<=b:=by grind
theorem zd:a-b=c+1->b<a->a-(b+1)=c:=by grind
theorem zc:a<b->a+1<=b:=by kd_p
theorem zb:a-b=c+1->b<a->a-b=a-(b+1)+1:=by omega
end
set_option maxHeartbeats 4000000
namespace TK
open PySem
section
variable {prog:Program} {w:World} {K:Type} [DecidableEq K] (knd:KeyKind prog w K)
def It (h:Heap):K ⊕ List K->Value->Prop
 | .inl k,v=>knd.is k v=true
 | .inr ks,v=>∃a,v=.ref a/\IsTupleKey knd h ks a
inductive Its (h:Heap):List (K ⊕ List K)->List Value->Prop
 | nil:Its h [] []
 | cons {k:K ⊕ List K} {v:Value} {ks:List (K ⊕ List K)} {vs:List Value}:It knd h k v->Its h ks vs->Its h (k::ks) (v::vs)
def IsT (h:Heap) (ks:List (K ⊕ List K)) (a:Addr):Prop:=∃o items n,h.get? a=some o/\o.cls=.type "tuple" /\ o.data=.seq items n/\Its knd h ks items.toList
def hsh:K ⊕ List K->Int
 | .inl k=>knd.hash k
 | .inr ks=>tupleKeyHash knd ks
def drw:K ⊕ List K->Nat
 | .inl _=>1
 | .inr ks=>ks.length+1
def oC (ks:List (K ⊕ List K)):Nat:=(ks.map drw).sum
def yk (ks:List (K ⊕ List K)):Int:=reduceHash (Builtin.Tuple.tupleHashOf (ks.map (hsh knd)))
variable {knd}
variable {v u:Value} {h h':Heap}
theorem It.inj {x y:K ⊕ List K} (hx:It knd h x v) (hy:It knd h y v):x=y:=by
 cases x with
 | inl k =>
  cases y with
  | inl j=>rw[knd.inj _ _ _ hx hy]
  | inr js =>
  obtain⟨a,rfl,_⟩:=hy;exact absurd (knd.byValue _ _ hx) (by simp[carriedByValue])
 | inr ks =>
 obtain⟨a,rfl,hx⟩:=hx
 cases y with
 | inl j=>exact absurd (knd.byValue _ _ hy) (by simp[carriedByValue])
 | inr js =>
 obtain⟨b,e,hy⟩:=hy;cases e;rw[hx.inj hy]
variable {x y ks:List (K ⊕ List K)}
theorem Its.inj {vs:List Value} (hx:Its knd h x vs) (hy:Its knd h y vs):x=y:=by
 induction hx generalizing y with
 | nil=>cases hy;rfl
 | cons h1 _ ih =>
 cases hy with
 | cons h2 t2=>rw[h1.inj h2,ih t2]
variable {d a b:Addr}
theorem It.keeps {k:K ⊕ List K} {o:Obj} {es ep} (x:It knd h k v) (ho:h.get? d=some o) (hd:o.data=.dict es ep) (hs:Heap.SameBut d h h'):It knd h' k v:=by
 cases k with
 | inl k=>exact x
 | inr ks=>obtain⟨a,e,x⟩:=x;exact⟨a,e,x.keeps ho hd hs⟩
theorem Its.imp {vs:List Value} (f:∀k v,It knd h k v->It knd h' k v) (x:Its knd h ks vs):Its knd h' ks vs:=by
 induction x with
 | nil=>exact .nil
 | cons h1 _ ih=>exact .cons (f _ _ h1) ih
theorem IsT.typeIs {s:Shared} (x:IsT knd s.heap ks a):s.TypeIs (.ref a) "tuple" := let ⟨o,_,_,ho,hc,_⟩:=x;⟨o,ho,hc⟩
theorem IsT.inj (hx:IsT knd h x a) (hy:IsT knd h y a):x=y:=by
 obtain⟨o,items,n,ho,_,hd,hi⟩:=hx;obtain⟨o',items',n',ho',_,hd',hi'⟩:=hy;obtain rfl:o=o':=QC (ho.symm.trans ho');rw[hd]at hd';injection hd' with h1 _;subst h1;exact hi.inj hi'
theorem IsT.keeps {o:Obj} {es ep} (x:IsT knd h ks a) (ho:h.get? d=some o) (hd:o.data=.dict es ep) (hs:Heap.SameBut d h h'):IsT knd h' ks a:=by
 obtain⟨o',items,n,ho',hc,hd',hi⟩:=x
 have hne:a≠d:=by
  rintro rfl;obtain rfl:o'=o:=QC (ho'.symm.trans ho);rw[hd]at hd';exact nomatch hd'
 exact⟨o',items,n,(hs.2 a hne).trans ho',hc,hd',hi.imp λk v x=>x.keeps ho hd hs⟩
variable {A:Around} {E:A0} {s:Shared}
theorem It.toks {k:K ⊕ List K} {v:Value} {t:Nat} (x:It knd s.heap k v):It knd { s with toks:=t }.heap k v:=x
theorem vZ {k:K ⊕ List K} {Q:Int->Shared->Prop} (hu:A.units<cLine) (hk:It knd s.heap k v) (h:Q (hsh knd k) { s with toks:=s.toks+drw k }):wpAny (model prog w) A (pyHash v) Q E s:=by
 cases k with
 | inl k=>exact knd.pyHash hk h
 | inr ks=>obtain⟨a,rfl,hk⟩:=hk;exact wpAny_pyHash_tuple hu hk h
theorem xt {Q:Int->Shared->Prop} (hu:A.units+1<cLine) (hk:IsT knd s.heap ks a) (h:Q (yk knd ks) { s with toks:=s.toks+(oC ks+1) }) :
  wpAny (model prog w) A (pyHash (.ref a)) Q E s:=by
 have hT:=hk.typeIs;obtain⟨o,items,n,ho,_,hd,hi⟩:=hk;unfold pyHash
 first|unfold pyHashByItsType|skip
 first|refine Qa (wpAny_cRoomFor_or (.inr (Nat.lt_of_succ_lt hu)) ?_)|skip
 refine Qa (wpAny_specialOf hT F.slot_tuple_hash.lookup ?_);show wpAny _ _ (if (some (Value.builtin "tuple.__hash__")==some Value.none)=true then _ else _) Q E s;rw[Qn (by rw[beq_builtin_none];exact Qr)];refine Qa (wpAny_specialOf hT F.slot_tuple_hash.lookup ?_);show wpAny _ _ (callSpecialIfBoundUnlessNone? (.ref a) "__hash__" _ >>= _) Q E s;refine Qa (wpAny_callSpecialIfBoundUnlessNone?_slot hT F.slot_tuple_hash (Q9 F.slot_tuple_hash hT F.entry_tuple_hash ?_ (F.args_tuple_hash_1 _)));show wpAny _ _ (Builtin.Tuple.tupleItemsOf (.ref a) >>= _) _ _ s;refine Qa (wpAny_tupleItemsOf ho hd ?_);refine Qa ?_;rw[<-Array.forIn_toList]
 refine wpAny_forIn_list _
  (λrest (b:Array Int) s'=>∃done left,ks=done++left/\Its knd s.heap left rest/\b.toList=done.map (hsh knd)/\s'={ s with toks:=s.toks+oC done })
  _ ?_ ?_ _ _ ⟨[],ks,rfl,hi,rfl,rfl⟩
 ·rintro x rest b s' ⟨done,left,rfl,hl,hb,rfl⟩
  cases hl with
  | @cons k _ ks' _ h1 hl' =>
  have e:oC (done++[k])=oC done+drw k:=by simp[oC]
  refine Qa (vZ (s:={ s with toks:=s.toks+oC done }) hu h1 ?_)
  first
   | exact Qf ⟨done++[k],ks',by simp,hl',by simp[hb],by simp[e,Nat.add_assoc]⟩
   | exact Qa (Qf (Qf ⟨done++[k],ks',by simp,hl',by simp[hb],by simp[e,Nat.add_assoc]⟩))
 rintro b s' ⟨done,left,rfl,hl,hb,rfl⟩;cases hl;rw[XG]at h;show wpAny _ _ (retInt (Builtin.Tuple.tupleHashOf b.toList)) _ _ _;rw[hb];refine wpAny_ret_mkInt ?_;show wpAny _ _ (if (decide (-(2:Int) ^ 63<=Builtin.Tuple.tupleHashOf (done.map (hsh knd)))&&decide (Builtin.Tuple.tupleHashOf (done.map (hsh knd))<2 ^ 63))=true then _ else _) Q E _;unfold yk reduceHash at h;by_cases hr:(decide (-(2:Int) ^ 63<=Builtin.Tuple.tupleHashOf (done.map (hsh knd)))&&decide (Builtin.Tuple.tupleHashOf (done.map (hsh knd))<2 ^ 63))=true
 ·rw[Qs hr];rw[Qs hr]at h;exact Qf (by simpa[Nat.add_assoc] using h)
 rw[Qn hr];rw[Qn hr]at h;exact Qa (wpAny_rule (Qf (by simpa[Nat.add_assoc] using h)))
def Apt (knd:KeyKind prog w K):Prop:=∀{A:Around} {E:A0} {s:Shared} {k:K} {u:Value} {a:Addr} {items:Array Value} {Q:Bool->Shared->Prop},A.units<cLine->knd.is k u=true->s.heap.IsTuple a items->Q false s ->
 wpAny (model prog w) A (eqBool u (.ref a)) Q E s/\wpAny (model prog w) A (eqBool (.ref a) u) Q E s
theorem rV {ks:List K} (x:IsTupleKey knd h ks a):∃items,h.IsTuple a items:=let ⟨o,items,n,h1,h2,h3,_⟩:=x;⟨items,o,h1,h2,n,h3⟩
variable {Q:Bool->Shared->Prop}
theorem it_eq {x y:K ⊕ List K} (ap:Apt knd) (hu:A.units<cLine) (hx:It knd s.heap x u) (hy:It knd s.heap y v) (h:Q (decide (x=y)) s):wpAny (model prog w) A (eqBool u v) Q E s:=by
 cases x with
 | inl k =>
  cases y with
  | inl j=>exact knd.eqBool hx hy (by simpa using h)
  | inr js=>obtain⟨b,rfl,hy⟩:=hy;obtain⟨_,t⟩:=rV hy;exact(ap hu hx t (by simpa using h)).1
 | inr ks =>
 obtain⟨a,rfl,hx⟩:=hx
 cases y with
 | inl j=>obtain⟨_,t⟩:=rV hx;exact(ap hu hy t (by simpa using h)).2
 | inr js=>obtain⟨b,rfl,hy⟩:=hy;exact wpAny_eqBool_tuple hu hx hy (by simpa using h)
theorem qI {P:Fin->Shared->Prop} (ap:Apt knd) (hu:A.units<cLine) (hx:IsT knd s.heap x a) (hy:IsT knd s.heap y b) (h:P (.done (.ret (.bool (decide (x=y))))) s) :
  wpAny (model prog w) A (Builtin.«tuple.__eq__» ⟨[.ref a,.ref b],[]⟩) P E s:=by
 have hTb:=hy.typeIs;obtain⟨oa,xs,na,hoa,_,hda,hia⟩:=hx;obtain⟨ob,ys,nb,hob,_,hdb,hib⟩:=hy;show wpAny _ _ (isInstance (.ref b) (.type "tuple") >>= _) _ _ s;refine Qa (wpAny_isInstance hTb isSubtype_tuple_tuple ?_);simp only[XZ,QH,XA];refine Qa (wpAny_tupleItemsOf hoa hda ?_);refine Qa (wpAny_tupleItemsOf hob hdb ?_);refine Qa ?_
 refine wpAny_forIn_list _
  (λrest r s'=>r.1=none/\s'=s/\∃x' y' xs' ys',rest=List.zip xs' ys'/\Its knd s.heap x' xs'/\Its knd s.heap y' ys'/\decide (x'=y')=decide (x=y)/\(xs'.length==ys'.length)=(xs.size==ys.size))
  _ ?_ ?_ _ _ ⟨rfl,rfl,x,y,xs.toList,ys.toList,rfl,hia,hib,rfl,by simp⟩
 ·rintro⟨u,v⟩ rest r s' ⟨hr,rfl,x',y',xs',ys',hz,hx',hy',hdec,hlen⟩
  cases hx' with
  | nil=>simp at hz
  | @cons k1 u' x'' xs'' h1 hx'' =>
  cases hy' with
  | nil=>simp at hz
  | @cons k2 v' y'' ys'' h2 hy'' =>
  simp only[List.zip_cons_cons,X0,Prod.mk.injEq]at hz;obtain⟨⟨rfl,rfl⟩,rfl⟩:=hz;refine Qa (it_eq ap hu h1 h2 ?_);by_cases hk:k1=k2
  ·subst hk;rw[Qu rfl];simp only[XZ,QH,XA];refine Qf ⟨rfl,rfl,x'',y'',xs'',ys'',rfl,hx'',hy'',?_,by simpa using hlen⟩;rw[<-hdec];by_cases hxy:x''=y''
   ·simp[hxy]
   simp[hxy]
  rw[Qw hk];simp only[Bool.not_false,if_true];have hf:decide (x=y)=false:=by rw[<-hdec];simp[hk]
  rw[hf]at h;exact Qa (Qf (Qf (Qf h)))
 rintro⟨r1,r2⟩ s' ⟨hr,rfl,x',y',xs',ys',hz,hx',hy',hdec,hlen⟩;simp only at hr;subst hr;refine Qf ?_
 have hfin:(xs.size==ys.size)=decide (x=y):=by
  rw[<-hdec,<-hlen]
  cases hx' with
  | nil =>
   cases hy' with
   | nil=>simp
   | cons _ _=>simp
  | cons _ _ =>
  cases hy' with
  | nil=>simp
  | cons _ _=>simp at hz
 show P (.done (.ret (.bool (xs.size==ys.size)))) s';rw[hfin];exact h
theorem t_eq (ap:Apt knd) (hu:A.units+1<cLine) (hx:IsT knd s.heap x a) (hy:IsT knd s.heap y b) (h:Q (decide (x=y)) s) :
  wpAny (model prog w) A (eqBool (.ref a) (.ref b)) Q E s:=by
 unfold eqBool
 try with_reducible refine Xf ?_
 show wpAny _ _ (if (Value.ref a==Value.ref b)=true then _ else _) Q E s;by_cases hab:(Value.ref a==Value.ref b)=true
 ·rw[Qs hab];have e:a=b:=by have:=eq_of_beq hab;injection this
  subst e;obtain rfl:=hx.inj hy;exact Qa (wpAny_rule (Qf (by simpa using h)))
 rw[Qn hab]
 exact Qa (wpAny_richCompare_same_room (op:=.Eq) hx.typeIs hy.typeIs F.slot_tuple_eq
  (Q9 F.slot_tuple_eq hx.typeIs F.entry_tuple_eq (qI ap hu hx hy ⟨_,rfl,(λe=>nomatch e),wpAny_truthy_bool h⟩) (F.args_tuple_eq_2 _ _)) (Nat.lt_of_succ_lt hu))
theorem qH {ks:List K} {m:Nat} (hk:IsTupleKey knd s.heap ks a) (h:Q true s):wpAny (model prog w) A (eqIsQuiet (m+1) (.ref a)) Q E s:=by
 have hT:=hk.typeIs;obtain⟨o,items,n,ho,_,hd,hi⟩:=hk;unfold eqIsQuiet;refine Qa (wpAny_specialOf hT F.slot_tuple_eq.lookup ?_);show wpAny _ _ (isInstance (.ref a) (.type "tuple") >>= _) _ _ s;refine Qa (wpAny_isInstance hT isSubtype_tuple_tuple ?_);simp only[XZ,QH,XA];refine Qa (XH ho hd ?_);refine Qa ?_;show wpAny _ _ (forIn items _ _) _ _ s;rw[<-Array.forIn_toList];refine wpAny_forIn_list _ (λrest r s'=>r.1=none/\s'=s/\∀v∈rest,carriedByValue v=true) _ ?_ ?_ _ _ ⟨rfl,rfl,hi.byValue⟩
 ·rintro v rest r s' ⟨hr,rfl,hall⟩;rw[eqIsQuiet_byValue _ (hall v Xp)];refine Qa (Qf ?_);simp only[XZ,QH,XA];exact Qf ⟨rfl,rfl,λu hu'=>hall u (Qp _ hu')⟩
 rintro⟨r1,r2⟩ s' ⟨hr,rfl,_⟩;simp only at hr;subst hr;exact Qf h
theorem uq {k:K ⊕ List K} {m:Nat} (hk:It knd s.heap k v) (h:Q true s):wpAny (model prog w) A (eqIsQuiet (m+1) v) Q E s:=by
 cases k with
 | inl k=>rw[eqIsQuiet_byValue _ (knd.byValue _ _ hk)];exact Qf h
 | inr ks=>obtain⟨a,rfl,hk⟩:=hk;exact qH hk h
theorem t_quiet (hk:IsT knd s.heap ks a) (h:Q true s):wpAny (model prog w) A (eqIsQuiet 8 (.ref a)) Q E s:=by
 have hT:=hk.typeIs;obtain⟨o,items,n,ho,_,hd,hi⟩:=hk;unfold eqIsQuiet;refine Qa (wpAny_specialOf hT F.slot_tuple_eq.lookup ?_);show wpAny _ _ (isInstance (.ref a) (.type "tuple") >>= _) _ _ s;refine Qa (wpAny_isInstance hT isSubtype_tuple_tuple ?_);simp only[XZ,QH,XA];refine Qa (XH ho hd ?_);refine Qa ?_;show wpAny _ _ (forIn items _ _) _ _ s;rw[<-Array.forIn_toList];refine wpAny_forIn_list _ (λrest r s'=>r.1=none/\s'=s/\∃ks,Its knd s.heap ks rest) _ ?_ ?_ _ _ ⟨rfl,rfl,_,hi⟩
 ·rintro v rest r s' ⟨hr,rfl,ks',hall⟩
  cases hall with
  | cons h1 h2 =>
  refine Qa (uq h1 ?_);simp only[XZ,QH,XA];exact Qf ⟨rfl,rfl,_,h2⟩
 rintro⟨r1,r2⟩ s' ⟨hr,rfl,_⟩;simp only at hr;subst hr;exact Qf h
noncomputable def kind (knd:KeyKind prog w K) (ap:Apt knd):HeapKind prog w (List (K ⊕ List K)) where
 is:=IsT knd
 hash:=yk knd
 draws:=λks=>oC ks+1
 room:=λA=>A.units+1<cLine
 inj:=λhx hy=>hx.inj hy
 keeps:=λx ho hd hs=>x.keeps ho hd hs
 pyHash:=λhu hk h=>xt hu hk h
 eqBool:=λhu hx hy h=>t_eq ap hu hx hy h
 quiet:=λhk h=>t_quiet hk h
end
end TK
-- CHANGE: your row's module here,as the last of these rows
namespace L2
open PySem PySem.Spec PyProof.Rows
abbrev Key:=Sum Int Str
def db:Key->Value->Bool
 | .inl k,v=>Value.isInt k v
 | .inr x,v=>Value.isStrOf x v
def Ae (w:World):Key->Int
 | .inl k=>hashInt k
 | .inr x=>hashStr w x
theorem aK:∀{k:Key} {v:Value},db k v=true->(∃i t,k=Sum.inl i/\v=Value.int i t)\/(∃x t,k=Sum.inr x/\v=Value.str x t)
 | .inl i,v,h=>by
  obtain⟨t,e⟩:=Value.isInt_shape (k:=i) (v:=v) h;exact .inl ⟨i,t,rfl,e⟩
 | .inr x,v,h=>by
  obtain⟨t,e⟩:=Value.isStrOf_shape (x:=x) (v:=v) h;exact .inr ⟨x,t,rfl,e⟩
theorem rg (i:Int) (t:Tok):db (.inl i) (.int i t)=true:=by simp[db,Value.isInt]
theorem rf (x:Str) (t:Tok):db (.inr x) (.str x t)=true:=by simp[db,Value.isStrOf]
theorem ue (a b:Int):decide ((Sum.inl a:Key)=Sum.inl b)=(a==b):=by
 by_cases e:a=b
 ·subst e;simp
 have h:¬(Sum.inl a:Key)=Sum.inl b:=λq=>e (Sum.inl.inj q);rw[Qw h];exact(beq_eq_false_iff_ne.mpr e).symm
theorem ud (a b:Str):decide ((Sum.inr a:Key)=Sum.inr b)=decide (a=b):=by
 by_cases e:a=b
 ·subst e;simp
 have h:¬(Sum.inr a:Key)=Sum.inr b:=λq=>e (Sum.inr.inj q);rw[Qw h,Qw e]
theorem yb (a:Int) (b:Str):decide ((Sum.inl a:Key)=Sum.inr b)=false:=Qw (λq=>nomatch q)
theorem ya (a:Str) (b:Int):decide ((Sum.inr a:Key)=Sum.inl b)=false:=Qw (λq=>nomatch q)
noncomputable def au (prog:Program) (w:World):PySem.KeyKind prog w Key where
 is:=db
 hash:=Ae w
 inj:=λv a b ha hb=>by
  rcases aK ha with⟨i,t,rfl,rfl⟩|⟨x,t,rfl,rfl⟩
  ·rcases aK hb with⟨j,u,rfl,e⟩|⟨y,u,rfl,e⟩
   ·injection e with e1 _;rw[e1]
   exact nomatch e
  rcases aK hb with⟨j,u,rfl,e⟩|⟨y,u,rfl,e⟩
  ·exact nomatch e
  injection e with e1 _;rw[e1]
 byValue:=λk v h=>by
  rcases aK h with⟨i,t,rfl,rfl⟩|⟨x,t,rfl,rfl⟩ <;> rfl
 pyHash:=λhv h=>by
  rcases aK hv with⟨i,t,rfl,rfl⟩|⟨x,t,rfl,rfl⟩
  ·exact wpAny_pyHash_int h
  exact wpAny_pyHash_str h
 eqBool:=λhu hv h=>by
  rcases aK hu with⟨i,t,rfl,rfl⟩|⟨x,t,rfl,rfl⟩
  ·rcases aK hv with⟨j,u,rfl,rfl⟩|⟨y,u,rfl,rfl⟩
   ·rw[ue]at h;exact wpAny_eqBool_int h
   rw[yb]at h;exact SeqAt.EqAt.int_str i t y u _ _ _ _ h
  rcases aK hv with⟨j,u,rfl,rfl⟩|⟨y,u,rfl,rfl⟩
  ·rw[ya]at h;exact SeqAt.EqAt.str_int x t j u _ _ _ _ h
  rw[ud]at h;exact wpAny_eqBool_str h
 «strs»:=λk x t v h=>by
  rcases aK h with⟨i,u,rfl,e⟩|⟨y,u,rfl,e⟩
  ·exact nomatch e
  injection e with e1 _;subst e1;cases v <;> rfl
theorem mw (prog:Program) (w:World) (i:Int) (t:Tok):(au prog w).is (.inl i) (.int i t)=true:=rg i t
theorem gs (prog:Program) (w:World) (x:Str) (t:Tok):(au prog w).is (.inr x) (.str x t)=true:=rf x t
theorem kH (prog:Program) (w:World):TK.Apt (au prog w):=λhu hk t h=>by
 rcases aK hk with⟨i,u,rfl,rfl⟩|⟨x,u,rfl,rfl⟩
 ·exact⟨SeqAt.EqAt.int_tuple _ _ t hu _ _ _ _ h,SeqAt.EqAt.tuple_int _ _ t hu _ _ _ _ h⟩
 exact⟨SeqAt.EqAt.str_tuple _ _ t hu _ _ _ _ h,SeqAt.EqAt.tuple_str _ _ t hu _ _ _ _ h⟩
abbrev av:=List (Key ⊕ List Key)
abbrev bh (P:Program) (w:World):HeapKind P w av:=TK.kind (au P w) (kH P w)
variable {A:Around}
theorem fD {P:Program} {w:World} (hu:A.units+8<cLine):(bh P w).room A.in1:=show A.units+1+1<cLine by omega
inductive V where
 | non|bl (b:Bool)|int (i:Int)|str (x:Str)|byt (b:Array UInt8)|flt (b:UInt64)|ref (a:Addr)|ty (n:String)
 deriving DecidableEq
noncomputable def aN:V->Value->Prop
 | .non,u=>u=Value.none
 | .bl b,u=>u=Value.bool b
 | .int i,u=>∃t,u=Value.int i t
 | .str x,u=>∃t,u=Value.str x t
 | .byt b,u=>∃t,u=Value.bytes b t
 | .flt b,u=>∃t,u=Value.float b t
 | .ref a,u=>u=Value.ref a
 | .ty n,u=>u=Value.type n
abbrev aQ:List V->List Value->Prop:=Paired aN
theorem aQ.length {xs:List V} {us:List Value} (r:aQ xs us):xs.length=us.length:=Xk r
theorem aQ.get:∀{xs:List V} {us:List Value} {i:Nat} {x:V},aQ xs us->xs[i]?=some x->∃u,us[i]?=some u/\aN x u
 | _,_,_,_,.nil,e=>by simp at e
 | _,_,0,_,.cons r _,e=>by simp at e;subst e;exact⟨_,rfl,r⟩
 | _,_,i+1,x,.cons _ t,e=>by
  obtain⟨u,h1,h2⟩:=aQ.get (i:=i) (x:=x) t (by simpa using e);exact⟨u,by simpa using h1,h2⟩
variable {u cd dV doc pm cdv ct oc:Value}
theorem aQ.set {x:V} (r:aN x u):∀{xs:List V} {us:List Value} (i:Nat),aQ xs us->aQ (xs.set i x) (us.set i u)
 | _,_,_,.nil=>.nil
 | _,_,0,.cons _ t=>.cons r t
 | _,_,i+1,.cons q t=>.cons q (aQ.set r i t)
theorem aQ.append:∀{xs ys:List V} {us ws:List Value},aQ xs us->aQ ys ws->aQ (xs++ys) (us++ws)
 | _,_,_,_,.nil,s=>s
 | _,_,_,_,.cons r t,s=>.cons r (aQ.append t s)
theorem aQ.take:∀{xs:List V} {us:List Value} (n:Nat),aQ xs us->aQ (xs.take n) (us.take n)
 | _,_,0,_=>.nil
 | _,_,_+1,.nil=>.nil
 | _,_,n+1,.cons r t=>.cons r (aQ.take n t)
theorem aQ.drop:∀{xs:List V} {us:List Value} (n:Nat),aQ xs us->aQ (xs.drop n) (us.drop n)
 | _,_,0,r=>r
 | _,_,_+1,.nil=>.nil
 | _,_,n+1,.cons _ t=>aQ.drop n t
theorem aQ.none_of:∀{xs:List V} {us:List Value} {i:Nat},aQ xs us->xs[i]?=none->us[i]?=none:=λ{xs us i} r e=>by
 have h1:=r.length;have h2:xs.length<=i:=Xd.mp e;exact Xd.mpr (by omega)
def fW:Option V->Option Value->Prop
 | some v,some u=>aN v u
 | none,none=>True
 | _,_=>False
def KV {κ:Type}:List (κ × V)->List (κ × Value)->Prop:=Paired λ(p:κ × V) (q:κ × Value)=>p.1=q.1/\aN p.2 q.2
def kV:Key->V
 | .inl i=>.int i
 | .inr x=>.str x
inductive HO where
 /-- a list -/
 | lst (xs:List V)
 /-- a tuple (never changes) -/
 | tup (xs:List V)
 /-- a dict whose keys are ints and texts;one whose keys are tuples of ints and texts (the empty one is both) -/
 | dK (kvs:List (Key × V))|dT (kvs:List (av × V))
 /-- a set of ints: its members,its size -/
 | set (S:Int->Bool) (n:Nat)
 /-- an instance of the class at C,its dict at dx,its attributes -/
 | ins (C dx:Addr) (fs:List (Str × V))
 /-- the dict of the instance at x -/
 | own (x:Addr)
 /-- the dict of an exception -/
 | xd (fs:List (Str × V))
 /-- a bound method,f of x -/
 | met (f x:Addr)
 /-- a range object lo,lo+1,.. below hi -/
 | rng (lo hi:Int)
 /-- a thing that is known to the object (the script;a dict while a loop wF it): read,never written while it is so -/
 | frz (o:Obj) (u:HO)
 /-- a code object's table -/
 | tbl (ps:Array Value)
 /-- any other thing,by what is true of its one object (a def of one's own: SetO a S n:=HO.ext λh=>..) -/
 | ext (φ:Heap->Prop)
abbrev Hp:=Addr->Option HO
def upd (H:Hp) (a:Addr) (o:HO):Hp:=λb=>if b=a then some o else H b
variable {o:HO} {a b it C f:Addr} {H H':Hp}
theorem ag:upd H a o a=some o:=by unfold upd;rw[Qs rfl]
theorem ah (h:b≠a):upd H a o b=H b:=by unfold upd;rw[Qn h]
theorem oX {u:HO}:upd (upd H a o) a u=upd H a u:=by
 funext b;unfold upd;split <;> rfl
theorem wY {u:HO} (h:H a=some o) (h':H b=some u) (d:o≠u):a≠b:=by
 intro e;subst e;rw[h]at h';exact d (QC h')
theorem aq (h:H a=some o) (h':H b=none):a≠b:=by
 intro e;subst e;rw[h]at h';cases h'
def KIt (H:Hp):Key ⊕ List Key->V->Prop
 | .inl k,v=>v=kV k
 | .inr ks,v=>∃c,v=.ref c/\H c=some (.tup (ks.map kV))
def bL (H:Hp) (k:av) (b:Addr):Prop:=∃vs,H b=some (.tup vs)/\Paired (KIt H) k vs
theorem KIt.keeps {k:Key ⊕ List Key} {v:V} (ht:∀b xs,H b=some (.tup xs)->H' b=some (.tup xs)) (h:KIt H k v):KIt H' k v:=by
 cases k with
 | inl k=>exact h
 | inr ks=>obtain⟨c,e,h⟩:=h;exact⟨c,e,ht _ _ h⟩
theorem Paired.mapT {α β:Type} {F G:α->β->Prop}:∀{l₁:List α} {l₂:List β},Paired F l₁ l₂->(∀a b,F a b->G a b)->Paired G l₁ l₂
 | _,_,.nil,_=>.nil
 | _,_,.cons r t,f=>.cons (f _ _ r) (Paired.mapT t f)
theorem bL.keeps {k:av} (h:bL H k b) (ht:∀b xs,H b=some (.tup xs)->H' b=some (.tup xs)):bL H' k b:=by
 obtain⟨vs,h1,h2⟩:=h;exact⟨vs,ht _ _ h1,Paired.mapT h2 λ_ _ z=>z.keeps ht⟩
section
variable (P:Program) (w:World)
noncomputable def bp (H:Hp) (h:Heap) (a:Addr):HO->Prop
 | .lst xs=>xs.length<=sizeLine/\∃(its:List Value) (n:Nat),aQ xs its/\h.get? a=some { cls:=.type "list", data:=.seq its.toArray n }
 | .tup xs=>xs.length<=sizeLine/\∃its:List Value,aQ xs its/\IsTup h a its.toArray
 | .dK kvs=>kvs.length<=sizeLine/\(a==sysModules)=false/\∃vs,KV kvs vs/\h.DictOf (au P w) a vs
 | .dT kvs=>kvs.length<=sizeLine/\(a==sysModules)=false/\∃xs:List (av × Addr × Value),
   Paired (λ(p:av × V) (q:av × Addr × Value)=>p.1=q.1/\bL H p.1 q.2.1/\aN p.2 q.2.2) kvs xs /\
   ∃o es ep,h.get? a=some o/\o.ExactDict/\o.data=.dict es ep/\es.toList=xs.map (entryOfKey (bh P w))/\(xs.map (·.1)).Nodup
 | .set S n=>h.SetOf (intKind P w) a S n
 | .ins C dx fs=>H dx=some (.own a)/\fs.length<=1000/\dx≠a/\h.get? a=some (PySem.W.instObj C dx) /\
   ∃mA,h.Ns1 dx mA/\(∀f,fW (fs.lookup f) (mA f))/\PySem.Within mA (fs.map (·.1))
 | .own _=>∃o,h.get? a=some o
 | .xd fs=>∃mA,h.Ns1 a mA/\∀f,fW (fs.lookup f) (mA f)
 | .rng lo hi=>∃t u v,h.get? a=some { cls:=.type "range", data:=.fields #[.int lo t,.int hi u,.int 1 v] }
 | .frz o u=>h.get? a=some o/\bp H h a u
 | .tbl ps=>h.get? a=some { cls:=.none,data:=.fields ps }
 | .met f x=>h.get? a=some (PySem.W.methodObj (.ref f) (.ref x))
 | .ext φ=>φ h/\(∃o,h.get? a=some o)/\∀h1 h2:Heap,φ h1->(∀o,h1.get? a=some o->h2.get? a=some o)->φ h2
def HOk (H:Hp) (h:Heap):Prop:=∀a o,H a=some o->bp P w H h a o
end
section
variable {P:Program} {w:World} {H H':Hp} {h h':Heap} {a:Addr} {o:HO}
theorem bp.lt (x:bp P w H h a o):a<h.objs.size:=by
 cases o with
 | lst xs=>obtain⟨_,_,_,_,e⟩:=x;exact Qt e
 | tup xs=>obtain⟨_,_,_,p⟩:=x;exact p.lt
 | dK kvs=>obtain⟨_,_,_,_,o,_,_,e,_⟩:=x;exact Qt e
 | dT kvs=>obtain⟨_,_,_,_,o,_,_,e,_⟩:=x;exact Qt e
 | set S n=>obtain⟨o,_,_,_,e,_⟩:=x;exact Qt e
 | ins C dx fs=>obtain⟨_,_,_,e,_⟩:=x;exact Qt e
 | own y=>obtain⟨_,e⟩:=x;exact Qt e
 | xd fs=>obtain⟨_,⟨_,_,_,e,_⟩,_⟩:=x;exact Qt e
 | rng lo hi=>obtain⟨_,_,_,e⟩:=x;exact Qt e
 | frz ob u=>obtain⟨e,_⟩:=x;exact Qt e
 | tbl ps=>exact Qt (show h.get? a=some _ from x)
 | met f y=>exact Qt (show h.get? a=some _ from x)
 | ext φ=>obtain⟨_,⟨_,e⟩,_⟩:=x;exact Qt e
theorem Paired.mapP {α β:Type} {F G:α->β->Prop}:∀{l₁:List α} {l₂:List β},Paired F l₁ l₂->(∀a b,F a b->G a b)->Paired G l₁ l₂
 | _,_,.nil,_=>.nil
 | _,_,.cons r t,f=>.cons (f _ _ r) (Paired.mapP t f)
theorem bp.stay (x:bp P w H h a o) (k:∀b u,(b=a\/H b=some (.own a))->h.get? b=some u->h'.get? b=some u)
  (ho:∀b,H b=some (.own a)->H' b=some (.own a)) (ht:∀b xs,H b=some (.tup xs)->H' b=some (.tup xs)):bp P w H' h' a o:=by
 induction o with
 | lst xs=>obtain⟨z,its,n,r,e⟩:=x;exact⟨z,its,n,r,k _ _ (.inl rfl) e⟩
 | tup xs=>obtain⟨z,its,r,ob,e,c⟩:=x;exact⟨z,its,r,ob,k _ _ (.inl rfl) e,c⟩
 | dK kvs=>obtain⟨z,y,vs,r,ob,es,ep,e,c⟩:=x;exact⟨z,y,vs,r,ob,es,ep,k _ _ (.inl rfl) e,c⟩
 | dT kvs =>
  obtain⟨z,y,xs,r,ob,es,ep,e,c⟩:=x;exact⟨z,y,xs,Paired.mapP r λp q z=>⟨z.1,z.2.1.keeps ht,z.2.2⟩,ob,es,ep,k _ _ (.inl rfl) e,c⟩
 | set S n=>obtain⟨ob,es,ep,t,e,c⟩:=x;exact⟨ob,es,ep,t,k _ _ (.inl rfl) e,c⟩
 | ins C dx fs =>
  obtain⟨d,z,ne,e,mA,⟨od,es,ep,e2,c⟩,r⟩:=x;exact⟨ho _ d,z,ne,k _ _ (.inl rfl) e,mA,⟨od,es,ep,k _ _ (.inr d) e2,c⟩,r⟩
 | own y=>obtain⟨ob,e⟩:=x;exact⟨ob,k _ _ (.inl rfl) e⟩
 | xd fs=>obtain⟨mA,⟨od,es,ep,e,c⟩,r⟩:=x;exact⟨mA,⟨od,es,ep,k _ _ (.inl rfl) e,c⟩,r⟩
 | rng lo hi=>obtain⟨t,u,v,e⟩:=x;exact⟨t,u,v,k _ _ (.inl rfl) e⟩
 | frz ob u ih=>obtain⟨e,q⟩:=x;exact⟨k _ _ (.inl rfl) e,ih q⟩
 | tbl ps =>
  have e:h.get? a=some { cls:=.none,data:=.fields ps }:=x;show h'.get? a=some { cls:=.none,data:=.fields ps };exact k a _ (.inl rfl) e
 | met f y =>
  have e:h.get? a=some (PySem.W.methodObj (.ref f) (.ref y)):=x;show h'.get? a=some (PySem.W.methodObj (.ref f) (.ref y));exact k a _ (.inl rfl) e
 | ext φ=>obtain⟨p,⟨o,e⟩,st⟩:=x;exact⟨st _ _ p λo q=>k _ _ (.inl rfl) q,⟨o,k _ _ (.inl rfl) e⟩,st⟩
theorem HOk.lt (x:HOk P w H h) (e:H a=some o):a<h.objs.size:=(x a o e).lt
theorem HOk.fresh (x:HOk P w H h) (e:h.objs.size<=a):H a=none:=by
 cases q:H a with
 | none=>rfl
 | some u=>exact absurd (QO (x.lt q) e) (X7 _)
theorem HOk.kept (x:HOk P w H h) (k:∀b u,h.get? b=some u->h'.get? b=some u):HOk P w H h':=λa o e =>
 (x a o e).stay (λb u _ q=>k b u q) (λ_ q=>q) λ_ _ q=>q
theorem HOk.laid (x:HOk P w H h) (k:∀b u,h.get? b=some u->h'.get? b=some u) (hp:h.objs.size<=a) (new:bp P w (upd H a o) h' a o):HOk P w (upd H a o) h':=λb u e=>by
 have hn:=x.fresh hp;by_cases hb:b=a
 ·subst hb;rw[ag]at e;cases e;exact new
 rw[ah hb]at e;exact(x b u e).stay (λc v _ q=>k c v q) (λc q=>by rw[ah (aq q hn)];exact q) λc xs q=>by rw[ah (aq q hn)];exact q
end
def Rd (H:Hp) (a:Addr) (u:HO):Prop:=H a=some u\/∃o,H a=some (.frz o u)
theorem Rd.of {u:HO} (h:H a=some u):Rd H a u:=.inl h
theorem Rd.ok {P:Program} {w:World} {h:Heap} {u:HO} (r:Rd H a u) (x:HOk P w H h):bp P w H h a u:=by
 rcases r with r|⟨o,r⟩
 ·exact x a u r
 obtain⟨_,q⟩:=x a _ r;exact q
def Mut:Option HO->Prop
 | some (.lst _)=>True
 | some (.dK _)=>True
 | some (.dT _)=>True
 | some (.set _ _)=>True
 | some (.ins _ _ _)=>True
 | some (.ext _)=>True
 | _=>False
section
variable {P:Program} {w:World} {H:Hp} {h h':Heap} {x e:Addr} {o':HO}
theorem HOk.write (ok:HOk P w H h) (mu:Mut (H x)) (he:e=x\/H e=some (.own x)) (k:∀b u,b≠e->h.get? b=some u->h'.get? b=some u) (heo:∃u,h'.get? e=some u)
  (new:bp P w (upd H x o') h' x o'):HOk P w (upd H x o') h':=λb u q=>by
 have nown:∀c y,H c=some (.own y)->c≠x:=λc y r z=>by subst z;rw[r]at mu;exact mu
 have ntup:∀c xs,H c=some (.tup xs)->c≠x:=λc xs r z=>by subst z;rw[r]at mu;exact mu
 by_cases hb:b=x
 ·subst hb;rw[ag]at q;cases q;exact new
 rw[ah hb]at q;by_cases hbe:b=e
 ·have q':H b=some (.own x):=by
   rcases he with z|z
   ·exact absurd (hbe.trans z) hb
   rw[hbe];exact z
  rw[q]at q';cases q';obtain⟨v,hv⟩:=heo;exact⟨v,by rw[hbe];exact hv⟩
 refine(ok b u q).stay (λc v hc r=>k c v ?_ r) (λc r=>by rw[ah (nown c b r)];exact r) λc xs r=>by rw[ah (ntup c xs r)];exact r
 rcases hc with rfl|hc
 ·exact hbe
 rintro rfl;rcases he with z|z
 ·exact nown c b hc z
 rw[hc]at z;cases z;exact hb rfl
end
structure Un (fs ex:A3) (H H':Hp) (h h':Heap):Prop where
 keep:∀b o,h.get? b=some o->H b=none->b∉fs->b∉ex->h'.get? b=some o
 slot:∀b o,h.get? b=some o->H b=none->b∈fs->b∉ex->∃sl,h'.get? b=some { o with slots:=sl }
 free:∀b o,h.get? b=some o->H b=none->b∉ex->H' b=none
 there:∀b o,h.get? b=some o->b∉ex->∃o',h'.get? b=some o'
 tups:∀b xs,H b=some (.tup xs)->H' b=some (.tup xs)
 frzs:∀b o u,H b=some (.frz o u)->H' b=some (.frz o u)
 tbls:∀b ps,H b=some (.tbl ps)->∃more,H' b=some (.tbl (ps++more))
section
variable {fs fs' ex ex':A3} {H H1 H2:Hp} {h h1 h2 h':Heap} {a x e:Addr} {o:HO}
theorem Un.any (u:Un fs ex H H1 h h1) {b:Addr} {ob:Obj} (q:h.get? b=some ob) (n:H b=none) (hx:b∉ex):∃sl,h1.get? b=some { ob with slots:=sl }:=by
 by_cases hb:b∈fs
 ·exact u.slot b ob q n hb hx
 exact⟨ob.slots,u.keep b ob q n hb hx⟩
theorem Un.kept (k:∀b u,h.get? b=some u->h'.get? b=some u):Un fs ex H H h h' :=
 ⟨λb ob q _ _ _=>k b ob q,λb ob q _ _ _=>⟨ob.slots,k b ob q⟩,λ_ _ _ n _=>n,λb ob q _=>⟨ob,k b ob q⟩,λ_ _ q=>q,λ_ _ _ q=>q,λ_ ps q=>⟨#[],by rw[q];simp⟩⟩
theorem Un.refl:Un fs ex H H h h:=Un.kept λ_ _ q=>q
theorem Un.laid (k:∀b u,h.get? b=some u->h'.get? b=some u) (hp:h.objs.size<=a) (hn:H a=none):Un fs ex H (upd H a o) h h' where
 keep:=λb u q _ _ _=>k b u q
 slot:=λb u q _ _ _=>⟨u.slots,k b u q⟩
 free:=λb u q n _=>by rw[ah (QF (QO (Qt q) hp))];exact n
 there:=λb u q _=>⟨u,k b u q⟩
 tups:=λb xs q=>by rw[ah (aq q hn)];exact q
 frzs:=λb u xs q=>by rw[ah (aq q hn)];exact q
 tbls:=λb ps q=>⟨#[],by rw[ah (aq q hn),q];simp⟩
theorem Un.write (mu:Mut (H x)) (he:e=x\/H e=some (.own x)) (k:∀b u,b≠e->h.get? b=some u->h'.get? b=some u) (heo:∃u,h'.get? e=some u):Un fs ex H (upd H x o) h h':=by
 have hx:∀b,H b=none->b≠x:=λb n z=>by subst z;rw[n]at mu;exact mu
 have hb:∀b,H b=none->b≠e:=λb n z=>by
  subst z;rcases he with r|r
  ·exact hx b n r
  rw[n]at r;cases r
 have hm:∀b u,H b=some u->¬Mut (some u)->b≠x:=λb u q nm z=>by subst z;rw[q]at mu;exact nm mu
 refine⟨λb u q n _ _=>k b u (hb b n) q,λb u q n _ _=>⟨u.slots,k b u (hb b n) q⟩,λb u q n _=>by rw[ah (hx b n)];exact n,λb u q _=>?_,
  λb xs q=>by rw[ah (hm b _ q λz=>z)];exact q,λb u xs q=>by rw[ah (hm b _ q λz=>z)];exact q,λb ps q=>⟨#[],by rw[ah (hm b _ q λz=>z),q];simp⟩⟩
 by_cases hbe:b=e
 ·subst hbe;exact heo
 exact⟨u,k b u hbe q⟩
end
def trk (h:Heap) (H:Hp):A3:=(List.range h.objs.size).filter λa=>(H a).isSome
def i7 (h:Heap) (H:Hp):Heap:=PySem.W.hideAll h (trk h H)
theorem rp (h:Heap) (H:Hp):(i7 h H).objs.size=h.objs.size:=PySem.W.hideAll_size _ _
theorem uw {h:Heap} {o:Obj} (e:h.get? b=some o) (n:H b=none):(i7 h H).get? b=some o :=
 PySem.W.hideAll_get _ e λhm=>by
  have q:(H b).isSome=true:=(QP.mp hm).2;rw[n]at q;simp at q
theorem vI {h:Heap} {o:Obj} (e:(i7 h H).get? b=some o):h.get? b=some o/\H b=none:=by
 have e':h.get? b=some o:=PySem.W.of_hideAll (trk h H) e;refine⟨e',?_⟩
 cases q:H b with
 | none=>rfl
 | some x =>
 have hm:b∈trk h H:=QP.mpr ⟨QR.mpr (Qt e'),by simp[q]⟩;have z:(i7 h H).get? b=none:=PySem.W.hideAll_none (trk h H) hm;rw[z]at e;cases e
structure Mod (K:PySem.W.Frag) (mg:A2) (base:Heap):Prop where
 kin:K.In base
 glob:base.Ns mainGlobals mg
 blt:∃mb,base.Ns builtinsNs mb/\∀x:Str,x ≠ "__name__" -> mb x=bootBuiltins x
 nolimit:base.NoLimit
/-- the context: a def's body (or a comprehension's block) running. base: fixed through the whole law;s₀,H₀: the dB;outer: the frames whose slots others may change (a def's callers);stack: all frames that run;
  ex: iterators that were made ahead of the dB and are walked here (a comprehension's);fn: the names whose cells were made at the dB (a def: all;a comprehension's block: its own);calm: not within an except suite;pn: pins that every state bears;xe: what is wanted of an exception that leaves the code -/
structure Cx where
 prog:Program
 w:World
 K:PySem.W.Frag
 mg:A2
 base:Heap
 A:Around
 N:List Str
 s₀:Shared
 H₀:Hp
 env:Env
 outer:List Env
 stack:List Env
 ex:A3
 fn:Str->Bool
 calm:Bool
 pn:A1
 xe:A0
def frs (l:List Env):A3:=l.filterMap (·.frame)
abbrev Cx.fs (X:Cx):A3:=frs X.outer
def Vis (sc:Scope) (x:Str):Prop:=sc.names.lookup x=some .local\/sc.names.lookup x=some .cell\/sc.names.lookup x=some .free
def Loc (sc:Scope) (x:Str):Prop:=sc.names.lookup x=some .local\/sc.names.lookup x=some .cell
def An (env:Env) (h:Heap) (m:A2) (x:Str) (u:Value):Prop :=
 (env.kindOf x=some .local/\m x=some u)\/((env.kindOf x=some .cell\/env.kindOf x=some .free)/\∃c,env.cells.lookup x=some c/\h.IsCell c (some u))
structure Cx.Ok (X:Cx):Prop where
 mod:Mod X.K X.mg X.base
 kind:X.env.scope.kind=.function
 glob:X.env.globals=mainGlobals
 blt:X.env.builtins=builtinsNs
 above:X.s₀.heap.objs.size<=X.env.locals
 inj:∀x y c,X.env.cells.lookup x=some c->X.env.cells.lookup y=some c->x=y
 has:∀x,(X.env.kindOf x=some .cell\/X.env.kindOf x=some .free)->∃c,X.env.cells.lookup x=some c
 cab:∀x c,X.fn x=true->X.env.cells.lookup x=some c->X.s₀.heap.objs.size<=c
 hd:X.calm=true->X.A.handled=none
 frames:X.A.frames=some X.stack
 stk:X.stack=X.outer\/(X.stack=X.env::X.outer/\X.env.frame=some X.env.locals)
 exf:∀b∈X.ex,b≠X.env.locals/\∀x c,X.env.cells.lookup x=some c->c≠b
 bs:∀b o,X.base.get? b=some o->X.s₀.heap.get? b=some o/\X.H₀ b=none
 bsz:X.base.objs.size<=X.s₀.heap.objs.size
 noex:∀b o,X.base.get? b=some o->b∉X.ex
 exfs:∀b∈X.ex,b∉X.fs
 funs:X.s₀.heap.FunFrames X.base X.outer
 frf:∀b∈X.fs,X.H₀ b=none
structure Inv (X:Cx) (pins:A1) (σ:List (Option V)) (H:Hp) (s:Shared):Prop where
 ok:X.Ok
 os:s.os=X.s₀.os
 bare:AllBare s.gens
 base:Un X.fs X.ex X.H₀ H X.s₀.heap s.heap
 loc:∃m,s.heap.Ns X.env.locals m/\∀(i:Nat) (x:Str) (v:V),X.N[i]?=some x->σ[i]?=some (some v)->Vis X.env.scope x->∃u,aN v u/\An X.env s.heap m x u
 cell:∀x c,X.env.cells.lookup x=some c->∃v,s.heap.IsCell c v
 free:H X.env.locals=none
 freeC:∀x c,X.env.cells.lookup x=some c->H c=none
 pin:∀p∈X.pn++pins,s.heap.get? p.1=some p.2/\H p.1=none/\p.1≠X.env.locals/\p.1∉X.fs/\∀v,p.2.data≠.cell v
 hok:HOk X.prog X.w H s.heap
 len:σ.length=X.N.length
section
variable {X:Cx} {pins:A1} {σ:List (Option V)} {H H':Hp} {s:Shared} {h':Heap}
theorem Cx.Ok.nofr (ok:X.Ok) {b:Addr} {o:Obj} (e:X.base.get? b=some o):b∉X.fs:=λhb=>by
 have:=(ok.funs.mem hb).1;rw[e]at this;cases this
theorem Inv.bs (I:Inv X pins σ H s):∀b o,X.base.get? b=some o->s.heap.get? b=some o/\H b=none:=λb o e =>
 ⟨I.base.keep b o (I.ok.bs b o e).1 (I.ok.bs b o e).2 (I.ok.nofr e) (I.ok.noex b o e),I.base.free b o (I.ok.bs b o e).1 (I.ok.bs b o e).2 (I.ok.noex b o e)⟩
theorem Inv.bk (I:Inv X pins σ H s):∀b o,X.base.get? b=some o->s.heap.get? b=some o:=λb o e=>(I.bs b o e).1
theorem Inv.mod (I:Inv X pins σ H s):Mod X.K X.mg X.base:=I.ok.mod
theorem Inv.kIn (I:Inv X pins σ H s):X.K.In s.heap:=I.ok.mod.kin.keeps I.bk
theorem Inv.lt (I:Inv X pins σ H s):X.env.locals<s.heap.objs.size:=let ⟨_,hn,_⟩:=I.loc;hn.lt
theorem Inv.sz (I:Inv X pins σ H s):X.s₀.heap.objs.size<=s.heap.objs.size:=QQ I.ok.above (XT I.lt)
theorem Inv.nofs (I:Inv X pins σ H s) {a:Addr} (h:s.heap.objs.size<=a):a∉X.fs:=λhb=>by
 obtain⟨_,o,ho,_⟩:=I.ok.funs.mem hb;exact absurd (QO (Qt ho) (QQ I.sz h)) (X7 _)
theorem Inv.cne (I:Inv X pins σ H s):∀x c,X.env.cells.lookup x=some c->c≠X.env.locals:=λx c e z=>by
 obtain⟨v,o,ho,hd⟩:=I.cell x c e;obtain⟨m,⟨o',es,ep,ho',hd',_⟩,_⟩:=I.loc;rw[z,ho']at ho;cases ho;rw[hd']at hd;cases hd
theorem Inv.funs (I:Inv X pins σ H s):s.heap.FunFrames X.base X.outer:=by
 have all:∀(l:List Env),(∀b∈frs l,b∈X.fs)->X.s₀.heap.FunFrames X.base l->s.heap.FunFrames X.base l:=by
  intro l
  induction l with
  | nil=>intro _ _;trivial
  | cons env r ih =>
  intro hs hl;obtain⟨hk,⟨L,o,hf,hn,ho,hd⟩,hr⟩:=hl;have hL:L∈X.fs:=hs L (by unfold frs;rw[List.filterMap_cons,hf];exact Xp);obtain⟨sl,e⟩:=I.base.slot L o ho (I.ok.frf L hL) hL λz=>I.ok.exfs L z hL;exact⟨hk,⟨L,_,hf,hn,e,hd⟩,ih (λb hb=>hs b (by unfold frs;rw[List.filterMap_cons,hf];exact Qp _ hb)) hr⟩
 exact all X.outer (λ_ hb=>hb) I.ok.funs
theorem Inv.stack (I:Inv X pins σ H s):s.heap.FunFrames X.base X.stack:=by
 rcases I.ok.stk with e|⟨e,hf⟩
 ·rw[e];exact I.funs
 rw[e];obtain⟨m,hn,_⟩:=I.loc;refine .cons (by rw[I.ok.kind];decide) hf hn ?_ I.funs;exact Heap.get?_none_of_le (QQ I.ok.bsz I.ok.above)
theorem Inv.stkSub (I:Inv X pins σ H s):∀b∈frs X.stack,b∈X.env.locals::X.fs:=λb hb=>by
 rcases I.ok.stk with e|⟨e,hf⟩
 ·rw[e]at hb;exact Qp _ hb
 rw[e]at hb;unfold frs at hb;rw[List.filterMap_cons,hf]at hb;exact hb
theorem Inv.stkFree (I:Inv X pins σ H s):∀b∈frs X.stack,H b=none:=λb hb=>by
 rcases Qj.mp (I.stkSub b hb) with e|hb
 ·rw[e];exact I.free
 obtain⟨_,o,ho,_⟩:=I.ok.funs.mem hb;exact I.base.free b o ho (I.ok.frf b hb) λz=>I.ok.exfs b z hb
theorem Inv.step {g':Array GenState} {t':Nat} {d':Drawn} {ch:A3} (I:Inv X pins σ H s)
  (hch:∀b∈ch,(b∈X.ex\/X.s₀.heap.objs.size<=b)/\b≠X.env.locals/\(∀x c,X.env.cells.lookup x=some c->c≠b)/\∀p∈X.pn++pins,p.1≠b)
  (keep:∀b o,b≠X.env.locals->b∉X.fs->b∉ch->s.heap.get? b=some o->H b=none->h'.get? b=some o)
  (slot:∀b o,b≠X.env.locals->b∈X.fs->b∉ch->s.heap.get? b=some o->H b=none->∃sl,h'.get? b=some { o with slots:=sl }) (free:∀b o,b∉ch->s.heap.get? b=some o->H b=none->H' b=none)
  (there:∀b o,b∉ch->s.heap.get? b=some o->∃o',h'.get? b=some o')
  (tups:∀b xs,H b=some (.tup xs)->H' b=some (.tup xs)) (frzs:∀b o u,H b=some (.frz o u)->H' b=some (.frz o u)) (tbls:∀b ps,H b=some (.tbl ps)->∃more,H' b=some (.tbl (ps++more)))
  (ns:∀m,s.heap.Ns X.env.locals m->h'.Ns X.env.locals m) (hok:HOk X.prog X.w H' h') (hg:AllBare g') :
  Inv X pins σ H' { s with heap:=h',gens:=g',drawn:=d',toks:=t' }:=by
 have neL:∀b o,X.s₀.heap.get? b=some o->b≠X.env.locals:=λb o e=>QF (QO (Qt e) I.ok.above)
 have neC:∀b o,X.s₀.heap.get? b=some o->b∉X.ex->b∉ch:=λb o e hx hb=>by
  rcases(hch b hb).1 with z|z
  ·exact hx z
  exact absurd (QO (Qt e) z) (X7 _)
 have cellK:∀x c,X.env.cells.lookup x=some c->∀v,s.heap.IsCell c v->h'.IsCell c v:=λx c e v ⟨o,ho,hd⟩=>by
  have nch:c∉ch:=λz=>(hch c z).2.2.1 x c e rfl;by_cases hc:c∈X.fs
  ·obtain⟨sl,q⟩:=slot c o (I.cne x c e) hc nch ho (I.freeC x c e);exact⟨_,q,hd⟩
  exact⟨o,keep c o (I.cne x c e) hc nch ho (I.freeC x c e),hd⟩
 refine⟨I.ok,I.os,hg,⟨λb o e n hb hx=>?_,λb o e n hb hx=>?_,λb o e n hx=>?_,λb o e hx=>?_,λb xs e=>tups b xs (I.base.tups b xs e),λb o xs e=>frzs b o xs (I.base.frzs b o xs e),λb ps e=>?_⟩,?_,λx c e=>?_,?_,λx c e=>?_,λp hp=>?_,hok,I.len⟩
 ·exact keep b o (neL b o e) hb (neC b o e hx) (I.base.keep b o e n hb hx) (I.base.free b o e n hx)
 ·obtain⟨sl,e1⟩:=I.base.slot b o e n hb hx;obtain⟨sl',e2⟩:=slot b _ (neL b o e) hb (neC b o e hx) e1 (I.base.free b o e n hx);exact⟨sl',e2⟩
 ·obtain⟨o',e1⟩:=I.base.there b o e hx;exact free b o' (neC b o e hx) e1 (I.base.free b o e n hx)
 ·obtain⟨o',e1⟩:=I.base.there b o e hx;exact there b o' (neC b o e hx) e1
 ·obtain⟨m1,e1⟩:=I.base.tbls b ps e;obtain⟨m2,e2⟩:=tbls b _ e1;exact⟨m1++m2,by rw[e2,Array.append_assoc]⟩
 ·obtain⟨m,hn,hl⟩:=I.loc;refine⟨m,ns m hn,λi x v e1 e2 e3=>?_⟩;obtain⟨u,r,l⟩:=hl i x v e1 e2 e3;refine⟨u,r,?_⟩;rcases l with l|⟨k,c,e,z⟩
  ·exact .inl l
  exact .inr ⟨k,c,e,cellK x c e _ z⟩
 ·obtain⟨v,z⟩:=I.cell x c e;exact⟨v,cellK x c e v z⟩
 ·obtain⟨m,⟨o,_,_,ho,_⟩,_⟩:=I.loc;exact free _ o (λz=>(hch _ z).2.1 rfl) ho I.free
 ·obtain⟨v,o,ho,hd⟩:=I.cell x c e;exact free c o (λz=>(hch c z).2.2.1 x c e rfl) ho (I.freeC x c e)
 obtain⟨e,n,ne,nf,d⟩:=I.pin p hp;have nch:p.1∉ch:=λz=>(hch p.1 z).2.2.2 p hp rfl;exact⟨keep p.1 p.2 ne nf nch e n,free p.1 p.2 nch e n,ne,nf,d⟩
theorem Inv.un {t':Nat} (I:Inv X pins σ H s) (u:Un X.fs [] H H' s.heap h') (hok:HOk X.prog X.w H' h'):Inv X pins σ H' { s with heap:=h',toks:=t' }:=by
 obtain⟨m,⟨o,es,ep,ho,r⟩,_⟩:=id I.loc;obtain⟨sl,hL⟩:=u.any ho I.free (by simp)
 exact I.step (g':=s.gens) (d':=s.drawn) (ch:=[]) (λ_ z=>nomatch z) (λb o _ hb _ e n=>u.keep b o e n hb (by simp)) (λb o _ hb _ e n=>u.slot b o e n hb (by simp)) (λb o _ e n=>u.free b o e n (by simp)) (λb o _ e=>u.there b o e (by simp)) u.tups u.frzs u.tbls (λm' hm=>by
  obtain⟨o',es',ep',ho',r'⟩:=hm;rw[ho]at ho';cases ho'
  exact⟨_,es',ep',hL,r'⟩) hok I.bare
theorem Inv.call {g':Array GenState} {t':Nat} {d':Drawn} {ch:A3} (I:Inv X pins σ H s) (u:Un (frs X.stack) ch H H' s.heap h') (hok:HOk X.prog X.w H' h') (hg:AllBare g')
  (hch:∀b∈ch,(b∈X.ex\/X.s₀.heap.objs.size<=b)/\b≠X.env.locals/\(∀x c,X.env.cells.lookup x=some c->c≠b)/\∀p∈X.pn++pins,p.1≠b) :
  Inv X pins σ H' { s with heap:=h',gens:=g',drawn:=d',toks:=t' }:=by
 obtain⟨m,⟨o,es,ep,ho,r⟩,_⟩:=id I.loc;obtain⟨sl,hL⟩:=u.any ho I.free λz=>(hch _ z).2.1 rfl
 exact I.step (ch:=ch) hch (λb o hL hb hc e n=>u.keep b o e n (λz=>(Qj.mp (I.stkSub b z)).elim hL hb) hc) (λb o _ _ hc e n=>u.any e n hc) (λb o hc e n=>u.free b o e n hc) (λb o hc e=>u.there b o e hc) u.tups u.frzs u.tbls (λm' hm=>by
  obtain⟨o',es',ep',ho',r'⟩:=hm;rw[ho]at ho';cases ho'
  exact⟨_,es',ep',hL,r'⟩) hok hg
theorem Inv.turned {t':Nat} {it:Addr} (I:Inv X pins σ H s) (k:∀b o,b≠it->s.heap.get? b=some o->h'.get? b=some o) (hn:H it=none) (hL:it≠X.env.locals)
  (h1:it∈X.ex\/X.s₀.heap.objs.size<=it) (h2:∀x c,X.env.cells.lookup x=some c->c≠it) (h3:∀p∈X.pn++pins,p.1≠it):Inv X pins σ H { s with heap:=h',toks:=t' }:=by
 have nit:∀b u,H b=some u->b≠it:=λb u e z=>by rw[z,hn]at e;cases e
 refine I.step (g':=s.gens) (d':=s.drawn) (ch:=[it]) (λb hb=>?_) (λb o _ _ hc e _=>k b o (λz=>hc (by simp[z])) e) (λb o _ _ hc e _=>⟨o.slots,k b o (λz=>hc (by simp[z])) e⟩) (λ_ _ _ _ n=>n)
  (λb o hc e=>⟨o,k b o (λz=>hc (by simp[z])) e⟩) (λ_ _ e=>e) (λ_ _ _ e=>e) (λb ps e=>⟨#[],by rw[e];simp⟩) (λm hm=>?_) (λb u e=>?_) I.bare
 ·have e:b=it:=by simpa using hb
  subst e;exact⟨h1,hL,h2,h3⟩
 ·obtain⟨o,es,ep,ho,r⟩:=hm;exact⟨o,es,ep,k _ o (Ne.symm hL) ho,r⟩
 refine(I.hok b u e).stay (λc v hc q=>k c v ?_ q) (λ_ q=>q) λ_ _ q=>q;rcases hc with z|z
 ·rw[z];exact nit b u e
 exact nit c _ z
theorem Inv.tok (I:Inv X pins σ H s) (t:Nat):Inv X pins σ H { s with toks:=t }:=I.un (h':=s.heap) (t':=t) Un.refl I.hok
theorem Inv.kept {t':Nat} (I:Inv X pins σ H s) (k:∀b u,s.heap.get? b=some u->h'.get? b=some u):Inv X pins σ H { s with heap:=h',toks:=t' }:=I.un (Un.kept k) (I.hok.kept k)
theorem Inv.laid {a:Addr} {o:HO} {t':Nat} (I:Inv X pins σ H s) (k:∀b u,s.heap.get? b=some u->h'.get? b=some u) (hp:s.heap.objs.size<=a) (new:bp X.prog X.w (upd H a o) h' a o) :
  Inv X pins σ (upd H a o) { s with heap:=h',toks:=t' }:=I.un (Un.laid k hp (I.hok.fresh hp)) (I.hok.laid k hp new)
theorem Inv.write {x e:Addr} {o:HO} {t':Nat} (I:Inv X pins σ H s) (mu:Mut (H x)) (he:e=x\/H e=some (.own x)) (k:∀b u,b≠e->s.heap.get? b=some u->h'.get? b=some u) (heo:∃u,h'.get? e=some u)
  (new:bp X.prog X.w (upd H x o) h' x o):Inv X pins σ (upd H x o) { s with heap:=h',toks:=t' }:=I.un (Un.write mu he k heo) (I.hok.write mu he k heo new)
theorem Inv.weak {σ':List (Option V)} (I:Inv X pins σ H s) (hl:σ'.length=σ.length) (w:∀(i:Nat) v,σ'[i]?=some (some v)->σ[i]?=some (some v)):Inv X pins σ' H s :=
 ⟨I.ok,I.os,I.bare,I.base,let ⟨m,hn,hl'⟩:=I.loc;⟨m,hn,λi x v e1 e2 e3=>hl' i x v e1 (w i v e2) e3⟩,I.cell,I.free,I.freeC,I.pin,I.hok,hl.trans I.len⟩
theorem Inv.pins_of {pins':A1} (I:Inv X pins σ H s) (h:∀p∈pins',s.heap.get? p.1=some p.2/\H p.1=none/\p.1≠X.env.locals/\p.1∉X.fs/\∀v,p.2.data≠.cell v):Inv X pins' σ H s :=
 ⟨I.ok,I.os,I.bare,I.base,I.loc,I.cell,I.free,I.freeC,λp hp=>(Qz.mp hp).elim (λz=>I.pin p (Xa _ z)) (h p),I.hok,I.len⟩
theorem mj {N:List Str} (hN:N.Nodup) {i j:Nat} {x:Str} (a:N[i]?=some x) (b:N[j]?=some x):i=j:=by
 obtain⟨h1,e1⟩:=Qc.mp a;obtain⟨h2,e2⟩:=Qc.mp b;exact(List.getElem_inj hN).mp (e1.trans e2.symm)
variable {Q:Unit->Shared->Prop} {E:A0}
theorem ji {M:Model} {A:Around} {i:Nat} {x:Str} {v:V} {u:Value} (I:Inv X pins σ H s) (hN:X.N.Nodup) (hi:X.N[i]?=some x) (hx:Loc X.env.scope x) (r:aN v u)
  (h:∀s',Inv X pins (σ.set i (some v)) H s'->(∃a,Heap.SameBut a s.heap s'.heap/\(a=X.env.locals\/X.env.cells.lookup x=some a))->Q () s') (hf:X.fn x=true\/X.env.scope.names.lookup x=some .local:=by z_go):wpAny M A (storeName X.env x u) Q E s:=by
 obtain⟨m,hn,hl⟩:=id I.loc;have hcls:(X.env.scope.kind==.class || (X.env.scope.kind==.module&&X.env.locals != X.env.globals))=false:=by rw[I.ok.kind];rfl
 have hiσ:i<σ.length:=by rw[I.len];exact(Qc.mp hi).1
 have cne:=I.cne
 have tracked:∀{a:Addr} {h':Heap},(∃o,s.heap.get? a=some o/\H a=none)->Heap.SameBut a s.heap h'->HOk X.prog X.w H h':=λ{a h'} ha hs b ob e=>by
  obtain⟨_,_,hfree⟩:=ha;refine(I.hok b ob e).stay (λc w' hc q=>(hs.2 c ?_).trans q) (λ_ q=>q) λ_ _ q=>q;rintro rfl;rcases hc with rfl|hc
  ·rw[hfree]at e;cases e
  rw[hfree]at hc;cases hc
 rcases hx with hk|hk
 ·refine wpAny_storeName_local hk hn (λh' hn' hs=>?_) hcls;obtain⟨oL,_,_,hoL,_⟩:=id hn;refine h _ ⟨I.ok,I.os,I.bare,⟨λb o e n hb hx=>?_,λb o e n hb hx=>?_,I.base.free,λb o e hx=>?_,I.base.tups,I.base.frzs,I.base.tbls⟩,⟨_,hn',λj y v' e1 e2 e3=>?_⟩,λy c e=>?_,I.free,I.freeC,λp hp=>?_,tracked ⟨oL,hoL,I.free⟩ hs,by simpa using I.len⟩ ⟨_,hs,.inl rfl⟩
  ·exact(hs.2 b (QF (QO (Qt e) I.ok.above))).trans (I.base.keep b o e n hb hx)
  ·obtain⟨sl,e1⟩:=I.base.slot b o e n hb hx;exact⟨sl,(hs.2 b (QF (QO (Qt e) I.ok.above))).trans e1⟩
  ·obtain⟨o',e1⟩:=I.base.there b o e hx;exact⟨o',(hs.2 b (QF (QO (Qt e) I.ok.above))).trans e1⟩
  ·by_cases hj:j=i
   ·subst hj;rw[hi]at e1;cases e1;rw[List.getElem?_set_self hiσ]at e2;cases e2;exact⟨u,r,.inl ⟨hk,by simp⟩⟩
   rw[List.getElem?_set_ne (Ne.symm hj)]at e2;obtain⟨u',r',q⟩:=hl j y v' e1 e2 e3;refine⟨u',r',?_⟩;rcases q with⟨k,e⟩|⟨k,c,e,z⟩
   ·refine .inl ⟨k,?_⟩;have:y≠x:=λe=>hj (mj hN e1 (e▸hi));simp[this,e]
   exact .inr ⟨k,c,e,z.sameBut hs (cne y c e)⟩
  ·obtain⟨w',z⟩:=I.cell y c e;exact⟨w',z.sameBut hs (cne y c e)⟩
  obtain⟨e,n,ne,nf,d⟩:=I.pin p hp;exact⟨(hs.2 p.1 ne).trans e,n,ne,nf,d⟩
 have hfn:X.fn x=true:=by
  rcases hf with z|z
  ·exact z
  rw[z]at hk;cases hk
 obtain⟨c,hc⟩:=I.ok.has x (.inl hk);obtain⟨w',z⟩:=I.cell x c hc;refine wpAny_storeName_cell I.ok.kind hk hc z (λh' hc' hs=>?_);obtain⟨oc,hoc,hocd⟩:=id z;refine h { s with heap:=h' } ⟨I.ok,I.os,I.bare,⟨λb o e n hb hx=>?_,λb o e n hb hx=>?_,I.base.free,λb o e hx=>?_,I.base.tups,I.base.frzs,I.base.tbls⟩,⟨m,hn.sameBut hs (Ne.symm (cne x c hc)),λj y v' e1 e2 e3=>?_⟩,λy c' e=>?_,I.free,I.freeC,λp hp=>?_,tracked ⟨oc,hoc,I.freeC x c hc⟩ hs,by simpa using I.len⟩ ⟨c,hs,.inr hc⟩
 ·exact(hs.2 b (QF (QO (Qt e) (I.ok.cab x c hfn hc)))).trans (I.base.keep b o e n hb hx)
 ·obtain⟨sl,e1⟩:=I.base.slot b o e n hb hx;exact⟨sl,(hs.2 b (QF (QO (Qt e) (I.ok.cab x c hfn hc)))).trans e1⟩
 ·obtain⟨o',e1⟩:=I.base.there b o e hx;exact⟨o',(hs.2 b (QF (QO (Qt e) (I.ok.cab x c hfn hc)))).trans e1⟩
 ·by_cases hj:j=i
  ·subst hj;rw[hi]at e1;cases e1;rw[List.getElem?_set_self hiσ]at e2;cases e2;exact⟨u,r,.inr ⟨.inl hk,c,hc,hc'⟩⟩
  rw[List.getElem?_set_ne (Ne.symm hj)]at e2;obtain⟨u',r',q⟩:=hl j y v' e1 e2 e3;refine⟨u',r',?_⟩;rcases q with q|⟨k,c',e,z'⟩
  ·exact .inl q
  refine .inr ⟨k,c',e,z'.sameBut hs ?_⟩;rintro rfl;exact hj (mj hN e1 (I.ok.inj _ _ _ e hc▸hi))
 ·by_cases hcc:c'=c
  ·subst hcc;exact⟨_,hc'⟩
  obtain⟨w2,z2⟩:=I.cell y c' e;exact⟨w2,z2.sameBut hs hcc⟩
 obtain⟨e,n,ne,nf,d⟩:=I.pin p hp;refine⟨(hs.2 p.1 ?_).trans e,n,ne,nf,d⟩;intro q;rw[q,hoc]at e;have q':oc=p.2:=QC e;exact d w' (by rw[<-q'];exact hocd)
theorem gM {M:Model} {A:Around} {i:Nat} {x:Str} {v:V} {u:Value} (I:Inv X pins σ H s) (hN:X.N.Nodup) (hi:X.N[i]?=some x) (hx:Loc X.env.scope x) (r:aN v u)
  (h:∀s',Inv X pins (σ.set i (some v)) H s'->Q () s') (hf:X.fn x=true\/X.env.scope.names.lookup x=some .local:=by z_go):wpAny M A (storeName X.env x u) Q E s :=
 ji I hN hi hx r (λs' I' _=>h s' I') hf
theorem Inv.call' {s':Shared} {ch:A3} (I:Inv X pins σ H s) (ho:s'.os=s.os) (u:Un (frs X.stack) ch H H' s.heap s'.heap) (hok:HOk X.prog X.w H' s'.heap) (hg:AllBare s'.gens)
  (hch:∀b∈ch,(b∈X.ex\/X.s₀.heap.objs.size<=b)/\b≠X.env.locals/\(∀x c,X.env.cells.lookup x=some c->c≠b)/\∀p∈X.pn++pins,p.1≠b):Inv X pins σ H' s':=by
 obtain⟨h',g',d',t',o'⟩:=s';have e:o'=s.os:=ho;subst e;exact I.call (g':=g') (t':=t') (d':=d') u hok hg hch
end
abbrev XK:=Value->Option Addr->Hp->Prop
abbrev St:=List (Option V)
abbrev VK:=V->Hp->Prop
abbrev TE:=St->Hp->VK->Prop
abbrev TT:=St->Hp->(Bool->Hp->Prop)->Prop
abbrev TA:=St->Hp->(List V->Hp->Prop)->Prop
structure Ends where
 nx:St->Hp->Prop
 rt:VK
 bk:St->Hp->Prop:=λ_ _=>False
 ct:St->Hp->Prop:=λ_ _=>False
abbrev TS:=Ends->St->Hp->Prop
def EP (X:Cx) (pins:A1) (σ:St) (Q:VK) (u:Value) (s':Shared):Prop:=∃v H',Inv X pins σ H' s'/\aN v u/\Q v H'
def TP (X:Cx) (pins:A1) (σ:St) (Q:Bool->Hp->Prop) (b:Bool) (s':Shared):Prop:=∃H',Inv X pins σ H' s'/\Q b H'
def AP (X:Cx) (pins:A1) (σ:St) (Q:List V->Hp->Prop) (us:List Value) (s':Shared):Prop:=∃vs H',Inv X pins σ H' s'/\aQ vs us/\Q vs H'
def SP (X:Cx) (pins:A1) (D:Ends) (f:Flow) (s':Shared):Prop :=
 match f with
 | .next=>∃σ' H',Inv X pins σ' H' s'/\D.nx σ' H'
 | .brk=>∃σ' H',Inv X pins σ' H' s'/\D.bk σ' H'
 | .cont=>∃σ' H',Inv X pins σ' H' s'/\D.ct σ' H'
 | .ret u=>∃v σ' H',Inv X pins σ' H' s'/\aN v u/\D.rt v H'
def PE (X:Cx) (e:Expr) (t:TE):Prop :=
 ∀(pins:A1) (s:Shared) (σ:St) (H:Hp) (Q:VK),Inv X pins σ H s->t σ H Q->wpAny (model X.prog X.w) X.A (eval e X.env) (EP X pins σ Q) X.xe s
def PT (X:Cx) (e:Expr) (t:TT):Prop :=
 ∀(pins:A1) (s:Shared) (σ:St) (H:Hp) (Q:Bool->Hp->Prop),Inv X pins σ H s->t σ H Q->wpAny (model X.prog X.w) X.A (isTrue e X.env (eval e X.env)) (TP X pins σ Q) X.xe s
def PW (X:Cx) (e:Expr) (t:TT):Prop :=
 ∀(whole:Sem Value) (pins:A1) (s:Shared) (σ:St) (H:Hp) (Q:Bool->Hp->Prop),Inv X pins σ H s->t σ H Q->wpAny (model X.prog X.w) X.A (isTrue e X.env whole) (TP X pins σ Q) X.xe s
variable {e tg:Expr} {X:Cx}
theorem PW.pt {t:TT} (h:PW X e t):PT X e t:=h _
def PA (X:Cx) (es:List Expr) (t:TA):Prop :=
 ∀(pos:Pos) (pins:A1) (s:Shared) (σ:St) (H:Hp) (Q:List V->Hp->Prop),Inv X pins σ H s->t σ H Q->wpAny (model X.prog X.w) X.A (spliced (backTo pos (starEach es X.env))) (AP X pins σ Q) X.xe s
def PS (X:Cx) (st:Stmt) (t:TS):Prop :=
 ∀(pins:A1) (s:Shared) (σ:St) (H:Hp) (D:Ends),Inv X pins σ H s->t D σ H->wpAny (model X.prog X.w) X.A (exec st X.env) (SP X pins D) X.xe s
def PSs (X:Cx) (st:List Stmt) (t:TS):Prop :=
 ∀(pins:A1) (s:Shared) (σ:St) (H:Hp) (D:Ends),Inv X pins σ H s->t D σ H->wpAny (model X.prog X.w) X.A (execs st X.env) (SP X pins D) X.xe s
variable {s s1:Shared} {E:A0}
theorem thn {α:Type} {t:Sem α} {Q Q':α->Shared->Prop} {M:Model} (h:wpAny M A t Q E s) (hQ:∀a s,Q a s->Q' a s):wpAny M A t Q' E s:=XV h hQ λ_ _ x=>x
section
variable {X:Cx}
def e_ (i:Nat):TE:=λσ H Q=>∃v,σ[i]?=some (some v)/\Q v H
def tC (v:V):TE:=λ_ H Q=>Q v H
variable {x:Str}
theorem xL {i:Nat} {pos:Pos} (hN:X.N[i]?=some x) (hv:Vis X.env.scope x) (hd:(x==("__debug__" : Str))=false:=by decide) (hcd:(x==("__classdict__" : Str))=false:=by decide):PE X (.Name x pos) (e_ i):=by
 intro pins s σ H Q I h;obtain⟨v,e,h⟩:=h;obtain⟨m,hn,hl⟩:=I.loc;obtain⟨u,r,l⟩:=hl i x v hN e hv;have fin:EP X pins σ Q u s:=⟨v,H,I,r,h⟩;rcases l with⟨hk,hm⟩|⟨hk,c,hc,hcell⟩
 ·exact wpAny_Name (wpAny_loadName_local I.ok.kind hk hn hm fin) hd
 rcases hk with hk|hk
 ·exact wpAny_Name (wpAny_loadName_cell I.ok.kind hk hc hcell fin) hd
 exact wpAny_Name (wpAny_loadName_free I.ok.kind hk hc hcell fin hcd) hd
theorem af {i j pos}:PE X (.Constant (.int i) j pos) (tC (.int i)):=λ_ _ _ H _ I h=>wpAny_Constant_int ⟨.int i,H,I.tok _,⟨_,rfl⟩,h⟩
theorem jv {b j pos}:PE X (.Constant (.bool b) j pos) (tC (.bl b)):=λ_ _ _ H _ I h=>Constant_bool ⟨.bl b,H,I,rfl,h⟩
theorem nO {j pos}:PE X (.Constant .none j pos) (tC .non):=λ_ _ _ H _ I h=>Constant_none ⟨.non,H,I,rfl,h⟩
theorem aI {x j pos}:PE X (.Constant (.str x) j pos) (tC (.str x)):=λ_ _ _ H _ I h=>Calls.Constant_str ⟨.str x,H,I.tok _,⟨_,rfl⟩,h⟩
def Gl (X:Cx) (x:Str):Prop:=X.env.kindOf x=some .globalImplicit
variable {Q E:A0} {u:Value} {pins:A1}
theorem kJ {s:Shared} {σ:St} {H:Hp} {pos:Pos} (I:Inv X pins σ H s) (hg:Gl X x) (hm:X.mg x=some u) (h:Q u s)
  (hd:(x==("__debug__" : Str))=false:=by decide):wpAny (model X.prog X.w) X.A (eval (.Name x pos) X.env) Q E s :=
 Calls.Name_function_global I.ok.kind hg (Calls.loadGlobal_global (by rw[I.ok.glob];exact I.mod.glob.keeps I.bk) hm h) hd
theorem dH {s:Shared} {σ:St} {H:Hp} {pos:Pos} (I:Inv X pins σ H s) (hg:Gl X x) (hm:X.mg x=none) (hv:bootBuiltins x=some u) (h:Q u s)
  (hn:x ≠ "__name__" := by decide) (hd:(x==("__debug__" : Str))=false:=by decide):wpAny (model X.prog X.w) X.A (eval (.Name x pos) X.env) Q E s:=by
 obtain⟨mb,h1,h2⟩:=I.mod.blt;exact Calls.Name_function_global I.ok.kind hg (Calls.loadGlobal_builtin (by rw[I.ok.glob];exact I.mod.glob.keeps I.bk) hm (by rw[I.ok.blt];exact h1.keeps I.bk) ((h2 x hn).trans hv) h) hd
theorem kA {v:V} {pos:Pos} (hg:Gl X x) (hm:X.mg x=some u) (r:aN v u) (hd:(x==("__debug__" : Str))=false:=by decide):PE X (.Name x pos) (tC v) :=
 λ_ _ _ H _ I h=>kJ I hg hm ⟨v,H,I,r,h⟩ hd
variable {a b:Expr} {ta tb:TE} {pos:Pos}
def PC (X:Cx) (op:CmpOp) (a b:Expr) (t:TE):Prop :=
 ∀(pins:A1) (s:Shared) (σ:St) (H:Hp) (Q:VK),Inv X pins σ H s->t σ H Q ->
  wpAny (model X.prog X.w) X.A (eval a X.env) (λv s₁=>wpAny (model X.prog X.w) X.A (eval b X.env) (λu s₂=>wpAny (model X.prog X.w) X.A (compareOp op v u) (EP X pins σ Q) X.xe s₂) X.xe s₁) X.xe s
def tB (t:TE):TT:=λσ H Q=>t σ H λx H1=>∃c,x=.bl c/\Q c H1
theorem nK {op:CmpOp} {t:TE} (h:PC X op a b t) (h1:behindInMarks op b=false:=by first|exact nobehind _ (by decide) (by decide)|rfl):PT X (.Compare a [op] [b] pos) (tB t):=by
 intro pins s σ H Q I hw;refine wpAny_isTrue_Compare1 (thn (h pins s σ H _ I hw) λv s1 h1=>thn h1 λu s2 h2=>thn h2 λc s3 ⟨x,H1,I1,r1,q1⟩=>?_) h1;obtain⟨d,rfl,q⟩:=q1;cases r1;exact wpAny_truthy_bool ⟨H1,I1,q⟩
theorem sY {e:Expr} {t:TE} (h:PE X e t) (he:∀whole,isTrue e X.env whole=(do let v <-whole;standAt e.pos;holding [v] (truthy v)):=by intro _;rfl):PT X e (tB t):=by
 intro pins s σ H Q I hw;refine isTrue_plain (thn (h pins s σ H _ I hw) λv s1 ⟨x,H1,I1,r1,q1⟩=>?_) (he _);obtain⟨d,rfl,q⟩:=q1;cases r1;exact wpAny_truthy_bool ⟨H1,I1,q⟩
variable {tA tB':TT} {rest:List Expr}
def yP (t u:TT):TT:=λσ H Q=>t σ H λc H1=>if c=true then u σ H1 Q else Q false H1
def tOr (t u:TT):TT:=λσ H Q=>t σ H λc H1=>if c=true then Q true H1 else u σ H1 Q
def yG (t:TT):TT:=λσ H Q=>t σ H λc H1=>Q (!c) H1
theorem kr (ha:PT X a tA):PW X (.BoolOp .And [a] pos) tA:=by
 intro wh pins s σ H Q I h;refine isTrue_and (thn (ha pins s σ H Q I h) λc s1 e=>?_)
 cases c with
 | true=>exact isTrue_and_nil e
 | false=>exact e
theorem nJ (ha:PT X a tA):PW X (.BoolOp .Or [a] pos) tA:=by
 intro wh pins s σ H Q I h;refine isTrue_or (thn (ha pins s σ H Q I h) λc s1 e=>?_)
 cases c with
 | false=>exact isTrue_or_nil e
 | true=>exact e
theorem hU (ha:PT X a tA) (hb:PW X (.BoolOp .And (b::rest) pos) tB'):PW X (.BoolOp .And (a::b::rest) pos) (yP tA tB'):=by
 intro wh pins s σ H Q I h;refine isTrue_and (thn (ha pins s σ H _ I h) λc s1 ⟨H1,I1,q1⟩=>?_)
 cases c with
 | true=>exact hb wh pins s1 σ H1 Q I1 q1
 | false=>exact⟨H1,I1,q1⟩
theorem pI (ha:PT X a tA) (hb:PW X (.BoolOp .Or (b::rest) pos) tB'):PW X (.BoolOp .Or (a::b::rest) pos) (tOr tA tB'):=by
 intro wh pins s σ H Q I h;refine isTrue_or (thn (ha pins s σ H _ I h) λc s1 ⟨H1,I1,q1⟩=>?_)
 cases c with
 | true=>exact⟨H1,I1,q1⟩
 | false=>exact hb wh pins s1 σ H1 Q I1 q1
theorem xI (ha:PT X a tA):PT X (.UnaryOp .Not a pos) (yG tA):=by
 intro pins s σ H Q I h;exact isTrue_not (ha pins s σ H (λc H1=>Q (!c) H1) I h)
def yO (ta tb:TE):TE:=λσ H Q=>ta σ H λx H1=>∃c,x=.bl c/\if c=true then tb σ H1 Q else Q (.bl false) H1
def z_ (ta tb:TE):TE:=λσ H Q=>ta σ H λx H1=>∃c,x=.bl c/\if c=true then Q (.bl true) H1 else tb σ H1 Q
def yF (ta:TE):TE:=λσ H Q=>ta σ H λx H1=>∃c,x=.bl c/\Q (.bl (!c)) H1
def tIf (t:TT) (ta tb:TE):TE:=λσ H Q=>t σ H λc H1=>if c=true then ta σ H1 Q else tb σ H1 Q
theorem lZ {c:Expr} (hc:PT X c tA) (ha:PE X a ta) (hb:PE X b tb):PE X (.IfExp c a b pos) (tIf tA ta tb):=by
 intro pins s σ H Q I h;refine wpAny_IfExp (thn (hc pins s σ H _ I h) λd s1 ⟨H1,I1,q1⟩=>?_)
 cases d with
 | true=>exact ha pins s1 σ H1 Q I1 q1
 | false=>exact hb pins s1 σ H1 Q I1 q1
end
def SqL (K:PySem.W.Frag) (H:Hp) (a:Addr) (xs:List V):Prop :=
 Rd H a (.lst xs) \/
  ∃(o:Obj) (its:Array Value) (n:Nat),K.lookup a=some o/\o.cls=.type "list" /\ o.dict=none/\o.data=.seq its n/\its.size<=sizeLine/\aQ xs its.toList
def SqT (K:PySem.W.Frag) (H:Hp) (a:Addr) (xs:List V):Prop :=
 Rd H a (.tup xs) \/
  ∃(o:Obj) (its:Array Value) (n:Nat),K.lookup a=some o/\o.cls=.type "tuple" /\ o.data=.seq its n/\its.size<=sizeLine/\aQ xs its.toList
noncomputable def Al:Value->Option V
 | .none=>some .non
 | .bool b=>some (.bl b)
 | .int i _=>some (.int i)
 | .str x _=>some (.str x)
 | .bytes b _=>some (.byt b)
 | .float b _=>some (.flt b)
 | .ref a=>some (.ref a)
 | .type n=>some (.ty n)
 | _=>none
theorem aN.abs {x:V} (r:aN x u):Al u=some x:=by
 cases x with
 | non=>cases r;rfl
 | bl _=>cases r;rfl
 | int _=>obtain⟨t,rfl⟩:=r;rfl
 | str _=>obtain⟨t,rfl⟩:=r;rfl
 | byt _=>obtain⟨t,rfl⟩:=r;rfl
 | flt _=>obtain⟨t,rfl⟩:=r;rfl
 | ref _=>cases r;rfl
 | ty _=>cases r;rfl
theorem aN.inj {x y:V} (r:aN x u) (q:aN y u):x=y:=QC (r.abs.symm.trans q.abs)
theorem aQ.inj:∀{xs ys:List V} {us:List Value},aQ xs us->aQ ys us->xs=ys
 | _,_,_,.nil,.nil=>rfl
 | _,_,_,.cons r t,.cons r' t'=>by rw[r.inj r',aQ.inj t t']
section
variable {X:Cx} {pins:A1} {σ:St} {H:Hp} {s:Shared} {a:Addr} {xs ys:List V}
theorem SqL.of {K:PySem.W.Frag} (h:H a=some (.lst xs)):SqL K H a xs:=.inl (.inl h)
theorem SqT.of {K:PySem.W.Frag} (h:H a=some (.tup xs)):SqT K H a xs:=.inl (.inl h)
theorem Inv.list (I:Inv X pins σ H s) (h:SqL X.K H a xs):∃its:List Value,aQ xs its/\PlainL s.heap a its.toArray/\xs.length<=sizeLine:=by
 rcases h with h|⟨o,its,n,hk,hc,hd,hs,hz,r⟩
 ·obtain⟨z,its,n,r,e⟩:=h.ok I.hok;exact⟨its,r,⟨_,n,e,rfl,rfl,rfl⟩,z⟩
 refine⟨its.toList,r,⟨o,n,I.kIn a o hk,hc,hd,by simpa using hs⟩,?_⟩;have e:=r.length;simp only[Qm]at e;omega
theorem Inv.tuple (I:Inv X pins σ H s) (h:SqT X.K H a xs):∃its:List Value,aQ xs its/\IsTup s.heap a its.toArray/\xs.length<=sizeLine:=by
 rcases h with h|⟨o,its,n,hk,hc,hs,hz,r⟩
 ·obtain⟨z,its,r,p⟩:=h.ok I.hok;exact⟨its,r,p,z⟩
 refine⟨its.toList,r,⟨o,I.kIn a o hk,hc,n,by simpa using hs⟩,?_⟩;have e:=r.length;simp only[Qm]at e;omega
theorem Inv.list_inj (I:Inv X pins σ H s) (h:SqL X.K H a xs) (h':SqL X.K H a ys):xs=ys:=by
 obtain⟨its,r,⟨o,n,e,_,_,d⟩,_⟩:=I.list h;obtain⟨its',r',⟨o',n',e',_,_,d'⟩,_⟩:=I.list h';rw[e]at e';cases e';rw[d]at d';injection d' with d1 _;have:its=its':=by simpa using congrArg Array.toList d1
 subst this;exact r.inj r'
theorem Inv.tuple_inj (I:Inv X pins σ H s) (h:SqT X.K H a xs) (h':SqT X.K H a ys):xs=ys:=by
 obtain⟨its,r,⟨o,e,_,n,d⟩,_⟩:=I.tuple h;obtain⟨its',r',⟨o',e',_,n',d'⟩,_⟩:=I.tuple h';rw[e]at e';cases e';rw[d]at d';injection d' with d1 _;have:its=its':=by simpa using congrArg Array.toList d1
 subst this;exact r.inj r'
end
abbrev Cx.wish (X:Cx) (E:A0):Cx:={ X with xe:=E }
abbrev Cx.nox (X:Cx):Cx:=X.wish λ_ _=>False
theorem Cx.Ok.wish (ok:X.Ok) (E:A0):(X.wish E).Ok :=
 ⟨ok.mod,ok.kind,ok.glob,ok.blt,ok.above,ok.inj,ok.has,ok.cab,ok.hd,ok.frames,ok.stk,ok.exf,ok.bs,ok.bsz,ok.noex,ok.exfs,ok.funs,ok.frf⟩
theorem Cx.Ok.unwish (ok:(X.wish E).Ok):X.Ok :=
 ⟨ok.mod,ok.kind,ok.glob,ok.blt,ok.above,ok.inj,ok.has,ok.cab,ok.hd,ok.frames,ok.stk,ok.exf,ok.bs,ok.bsz,ok.noex,ok.exfs,ok.funs,ok.frf⟩
section
variable {X:Cx} {pins:A1} {σ:St} {H:Hp} {s:Shared} {E:A0}
theorem Inv.wish (I:Inv X pins σ H s) (E:A0):Inv (X.wish E) pins σ H s:=⟨I.ok.wish E,I.os,I.bare,I.base,I.loc,I.cell,I.free,I.freeC,I.pin,I.hok,I.len⟩
theorem Inv.unwish (I:Inv (X.wish E) pins σ H s):Inv X pins σ H s:=⟨I.ok.unwish,I.os,I.bare,I.base,I.loc,I.cell,I.free,I.freeC,I.pin,I.hok,I.len⟩
theorem SP.unwish {D:Ends} {f:Flow} {s':Shared} (h:SP (X.wish E) pins D f s'):SP X pins D f s':=by
 cases f with
 | next=>obtain⟨σ',H',I,q⟩:=h;exact⟨σ',H',I.unwish,q⟩
 | brk=>obtain⟨σ',H',I,q⟩:=h;exact⟨σ',H',I.unwish,q⟩
 | cont=>obtain⟨σ',H',I,q⟩:=h;exact⟨σ',H',I.unwish,q⟩
 | ret u=>obtain⟨v,σ',H',I,r,q⟩:=h;exact⟨v,σ',H',I.unwish,r,q⟩
theorem PSs.nox {st:List Stmt} {t:TS} (h:PSs X.nox st t):PSs X st t:=λpins s σ H D I hw =>
 XV (h pins s σ H D (I.wish _) hw) (λ_ _ q=>q.unwish) λ_ _ z=>False.elim z
end
section
variable {X:Cx} {st:Stmt} {rest:List Stmt} {t u:TS} {e:Expr} {te:TE} {pos:Pos}
def wJ:TS:=λD σ H=>D.nx σ H
def u_ (t u:TS):TS:=λD σ H=>t { D with nx:=u D } σ H
theorem pss_nil:PSs X [] wJ:=λ_ _ σ H _ I h=>wpAny_execs_nil ⟨σ,H,I,h⟩
theorem pss_cons (h1:PS X st t) (h2:PSs X rest u):PSs X (st::rest) (u_ t u):=by
 intro pins s σ H D I h;refine wpAny_execs_cons (thn (h1 pins s σ H { D with nx:=u D } I h) λf s1 q=>?_)
 cases f with
 | next =>
  obtain⟨σ',H',I',q⟩:=q;exact h2 pins s1 σ' H' D I' q
 | ret v=>exact q
 | brk=>exact q
 | cont=>exact q
theorem pss_one (h1:PS X st t):PSs X [st] t:=by
 intro pins s σ H D I h;refine wpAny_execs_cons (thn (h1 pins s σ H D I h) λf s1 q=>?_)
 cases f with
 | next=>exact wpAny_execs_nil q
 | ret v=>exact q
 | brk=>exact q
 | cont=>exact q
theorem Inv.quiet {pins:A1} {σ:St} {H:Hp} {s:Shared} (I:Inv X pins σ H s):interactive X.env=false:=by simp[interactive,I.ok.kind]
def wK (te:TE):TS:=λD σ H=>te σ H λ_ H1=>D.nx σ H1
theorem bM (he:PE X e te) (hs:swapsWith e none pos.line X.env=pure false:=by rfl):PS X (.Expr e pos) (wK te):=by
 intro pins s σ H D I h;exact wpAny_Expr_any (thn (he pins s σ H _ I h) λv s1 ⟨x,H1,I1,r1,q1⟩=>⟨σ,H1,I1,q1⟩) I.quiet hs
def yE (te:TE):TS:=λD σ H=>te σ H D.rt
theorem aW (he:PE X e te):PS X (.Return (some e) pos) (yE te):=by
 intro pins s σ H D I h;exact wpAny_Return_some (thn (he pins s σ H _ I h) λv s1 ⟨x,H1,I1,r1,q1⟩=>⟨x,σ,H1,I1,r1,q1⟩)
def yI (c:TT) (t u:TS):TS:=λD σ H=>c σ H λb H1=>if b=true then t D σ H1 else u D σ H1
theorem ps_if {c:Expr} {a b:List Stmt} {tc:TT} (hc:PT X c tc) (ha:PSs X a t) (hb:PSs X b u):PS X (.If c a b pos) (yI tc t u):=by
 intro pins s σ H D I h;refine wpAny_If (thn (hc pins s σ H _ I h) λd s1 ⟨H1,I1,q1⟩=>?_)
 cases d with
 | true=>exact ha pins s1 σ H1 D I1 q1
 | false=>exact hb pins s1 σ H1 D I1 q1
end
abbrev TG:=V->St->Hp->(St->Hp->Prop)->Prop
abbrev TGs:=List V->St->Hp->(St->Hp->Prop)->Prop
def PG (X:Cx) (target:Expr) (t:TG):Prop :=
 ∀(pins:A1) (s:Shared) (σ:St) (H:Hp) (v:V) (u:Value) (Q:St->Hp->Prop),Inv X pins σ H s->aN v u->t v σ H Q ->
  wpAny (model X.prog X.w) X.A (assign target X.env u) (λ_ s'=>∃σ' H',Inv X pins σ' H' s'/\Q σ' H') X.xe s
def PGs (X:Cx) (ts:List Expr) (t:TGs):Prop :=
 ∀(pins:A1) (s:Shared) (σ:St) (H:Hp) (vs:List V) (us:List Value) (Q:St->Hp->Prop),Inv X pins σ H s->aQ vs us->t vs σ H Q ->
  wpAny (model X.prog X.w) X.A (assignInOrder ((assignEach ts X.env).map (·.2)) us) (λ_ s'=>∃σ' H',Inv X pins σ' H' s'/\Q σ' H') X.xe s
abbrev wB:=V->V->V->Hp->(Hp->Prop)->Prop
def zW (X:Cx) (t:wB):Prop :=
 ∀(pins:A1) (s:Shared) (σ:St) (H:Hp) (o i v:V) (ov iv u:Value) (Q:Hp->Prop),Inv X pins σ H s->aN o ov->aN i iv->aN v u->t o i v H Q ->
  wpAny (model X.prog X.w) X.A (setItem ov iv u) (λ_ s'=>∃H',Inv X pins σ H' s'/\Q H') X.xe s
abbrev TIp:=V->V->Hp->VK->Prop
def PIp (X:Cx) (op:Operator) (t:TIp):Prop :=
 ∀(pins:A1) (s:Shared) (σ:St) (H:Hp) (x y:V) (v u:Value) (Q:VK),Inv X pins σ H s->aN x v->aN y u->t x y H Q ->
  wpAny (model X.prog X.w) X.A (inplaceOp op v u) (EP X pins σ Q) X.xe s
section
variable {X:Cx} {pos:Pos}
def dv (i:Nat):TG:=λv σ H Q=>Q (σ.set i (some v)) H
variable {x:Str}
theorem bI {i:Nat} (hN:X.N.Nodup) (hi:X.N[i]?=some x) (hx:Loc X.env.scope x) (hf:X.fn x=true\/X.env.scope.names.lookup x=some .local:=by z_go):PG X (.Name x pos) (dv i):=by
 intro pins s σ H v u Q I r h;exact wpAny_assign_Name (gM I hN hi hx r (λs' I'=>⟨_,H,I',h⟩) hf)
theorem bD (i:Nat) (hN:X.N.Nodup) (hi:X.N[i]?=some x:=by rfl) (hx:Loc X.env.scope x:=by z_go) (hf:X.fn x=true\/X.env.scope.names.lookup x=some .local:=by z_go):PG X (.Name x pos) (dv i):=bI hN hi hx hf
def Ah:TGs:=λvs σ H Q=>vs=[]/\Q σ H
def zQ (t:TG) (u:TGs):TGs:=λvs σ H Q=>∃v r,vs=v::r/\t v σ H λσ' H'=>u r σ' H' Q
theorem cS:PGs X [] Ah:=by
 intro pins s σ H vs us Q I r h;obtain⟨e,h⟩:=h;subst e;cases r;exact assignInOrder_nil ⟨σ,H,I,h⟩
variable {e o i tg:Expr}
theorem bg {es:List Expr} {t:TG} {u:TGs} (h1:PG X e t) (h2:PGs X es u)
  (hs:(assignEach (e::es) X.env).map (·.2)=assign e X.env::(assignEach es X.env).map (·.2):=by rfl):PGs X (e::es) (zQ t u):=by
 intro pins s σ H vs us Q I r h;obtain⟨v,vr,e1,h⟩:=h;subst e1
 cases r with
 | cons r rr =>
 rw[hs];refine assignInOrder_cons (thn (h1 pins s σ H _ _ _ I r h) λ_ s1 ⟨σ1,H1,I1,q1⟩=>?_);exact h2 pins s1 σ1 H1 _ _ Q I1 rr q1
def zO (K:PySem.W.Frag) (n:Nat) (t:TGs):TG:=λv σ H Q=>∃a xs,v=.ref a/\SqT K H a xs/\xs.length=n/\t xs σ H Q
theorem fh {es:List Expr} {k:Nat} {t:TGs} {n:Nat} (hc:X.calm=true) (h:PGs X es t)
  (hn:(assignEach es X.env).length=n:=by rfl) (hst:(assignEach es X.env).findIdx? (·.1)=none:=by rfl):PG X (.Tuple es k pos) (zO X.K n t):=by
 intro pins s σ H v u Q I r hw;obtain⟨a,xs,e1,hq,hl,hw⟩:=hw;subst e1;cases r;obtain⟨its,rv,ht,hz⟩:=I.tuple hq;refine assign_Tuple_tuple (I.ok.hd hc) ht (by simp[hn,<-hl,rv.length]) hst λh' hx=>?_;have I1:Inv X pins σ H { s with heap:=h' }:=I.kept (t':=s.toks) λb o e=>hx b o (QF (Qt e)) e;exact h pins _ σ H xs _ Q I1 (by simpa using rv) hw
def zP (to ti:TE) (t:wB):TG:=λv σ H Q=>to σ H λo H1=>ti σ H1 λi H2=>t o i v H2 λH3=>Q σ H3
variable {to te:TE}
theorem tw {ti:TE} {t:wB} (ho:PE X o to) (hi:PE X i ti) (hs:zW X t)
  (ha:∀v,assign (.Subscript o i pos) X.env v=(do
   let ov <-holding [v] (eval o X.env);let iv <-holding [v,ov] (eval i X.env)
   standAt pos
   holding [v,ov,iv] (setItem ov iv v)
   release [v,ov,iv] []):=by intro _;rfl):PG X (.Subscript o i pos) (zP to ti t):=by
 intro pins s σ H v u Q I r h;rw[ha];refine Qa (Xf (thn (ho pins s σ H _ I h) λov s1 ⟨x,H1,I1,r1,q1⟩=>?_));refine Qa (Xf (thn (hi pins s1 σ H1 _ I1 q1) λiv s2 ⟨y,H2,I2,r2,q2⟩=>?_));refine Qa (wpAny_standAt (Qa (Xf (thn (hs pins s2 σ H2 x y v ov iv u _ I2 r1 r2 r q2) λ_ s3 ⟨H3,I3,q3⟩=>?_))));exact wpAny_release ⟨σ,H3,I3,q3⟩
def se (te:TE) (g:TG):TS:=λD σ H=>te σ H λx H1=>g x σ H1 D.nx
theorem sZ {g:TG} (he:PE X e te) (hg:PG X tg g) (hs:swapsWithSole [tg] e pos.line X.env=pure false:=by rfl) (hw:swappedStores [tg] e X.env=pure none:=by rfl)
  (h1:(assignEach [tg] X.env).map (·.2)=[assign tg X.env]:=by rfl):PS X (.Assign [tg] e pos) (se te g):=by
 intro pins s σ H D I h;refine wpAny_Assign_stores (thn (he pins s σ H _ I h) λv s1 ⟨x,H1,I1,r1,q1⟩=>?_) hs hw;rw[h1];exact thn (hg pins s1 σ H1 x v _ I1 r1 q1) λ_ s2 q=>q
variable {pos':Pos}
theorem kw {i:Nat} (hN:X.N.Nodup) (hi:X.N[i]?=some x) (hx:Loc X.env.scope x) (he:PE X e te) (hs:swapsWith e (some (.Name x pos')) pos.line X.env=pure false:=by rfl) (hf:X.fn x=true\/X.env.scope.names.lookup x=some .local:=by z_go) :
  PS X (.Assign [.Name x pos'] e pos) (se te (dv i)):=by
 intro pins s σ H D I h;refine wpAny_Assign_Name (thn (he pins s σ H _ I h) λv s1 ⟨y,H1,I1,r1,q1⟩=>?_) hs;exact gM I1 hN hi hx r1 (λs2 I2=>⟨_,H1,I2,q1⟩) hf
theorem aE (i:Nat) (hN:X.N.Nodup) (he:PE X e te) (hi:X.N[i]?=some x:=by rfl) (hx:Loc X.env.scope x:=by z_go) (hs:swapsWith e (some (.Name x pos')) pos.line X.env=pure false:=by rfl) (hf:X.fn x=true\/X.env.scope.names.lookup x=some .local:=by z_go):PS X (.Assign [.Name x pos'] e pos) (se te (dv i)):=kw hN hi hx he hs hf
def Aa (i:Nat) (te:TE) (ti:TIp):TS:=λD σ H=>∃x,σ[i]?=some (some x)/\te σ H λy H1=>ti x y H1 λz H2=>D.nx (σ.set i (some z)) H2
theorem xK {i:Nat} {op:Operator} {ti:TIp} (hN:X.N.Nodup) (hi:X.N[i]?=some x) (hx:Loc X.env.scope x) (he:PE X e te) (ho:PIp X op ti) (hf:X.fn x=true\/X.env.scope.names.lookup x=some .local:=by z_go) :
  PS X (.AugAssign (.Name x pos') op e pos) (Aa i te ti):=by
 intro pins s σ H D I h;obtain⟨v,e1,h⟩:=h;obtain⟨m,hn,hl⟩:=I.loc;have vis:Vis X.env.scope x:=by rcases hx with k|k;exact .inl k;exact .inr (.inl k)
 obtain⟨u,r,l⟩:=hl i x v hi e1 vis;refine wpAny_AugAssign_Name ?_
 have go:wpAny (model X.prog X.w) X.A (eval e X.env) (λw s₂=>wpAny (model X.prog X.w) X.A (inplaceOp op u w) (λr s₃=>wpAny (model X.prog X.w) X.A (storeName X.env x r) (λ_=>SP X pins D .next) X.xe s₃) X.xe s₂) X.xe s:=by
  refine thn (he pins s σ H _ I h) λw s1 ⟨y,H1,I1,r1,q1⟩=>?_;refine thn (ho pins s1 σ H1 v y u w _ I1 r r1 q1) λz s2 ⟨zv,H2,I2,r2,q2⟩=>?_;exact gM I2 hN hi hx r2 (λs3 I3=>⟨_,H2,I3,q2⟩) hf
 rcases l with⟨hk,hm⟩|⟨hk,c,hc,hcell⟩
 ·exact wpAny_loadName_local I.ok.kind hk hn hm go
 rcases hk with hk|hk
 ·exact wpAny_loadName_cell I.ok.kind hk hc hcell go
 rcases hx with k|k
 ·have:X.env.scope.names.lookup x=some .free:=hk;rw[k]at this;cases this
 have:X.env.scope.names.lookup x=some .free:=hk;rw[k]at this;cases this
def ipI (f:Int->Int->Int):TIp:=λx y H Q=>∃i j,x=.int i/\y=.int j/\Q (.int (f i j)) H
theorem yg:PIp X .Add (ipI λi j=>i+j):=by
 intro pins s σ H x y v u Q I r1 r2 h;obtain⟨i,j,e1,e2,q⟩:=h;subst e1;subst e2;obtain⟨t,rfl⟩:=r1;obtain⟨t',rfl⟩:=r2;exact iadd_int ⟨.int _,H,I.tok _,⟨_,rfl⟩,q⟩
end
section
variable {X:Cx} {pos:Pos}
def xu (c:TT) (tb:TS):TS:=λD σ H=>∃W:Nat->St->Hp->Prop,(∃m,W m σ H)/\∀m σ H,W m σ H ->
 c σ H λb H1=>if b=true then ∃N:St->Hp->Prop,(∀σ' H',N σ' H'->∃m',m'<m/\W m' σ' H')/\tb { D with nx:=N,ct:=N,bk:=D.nx } σ H1 else D.nx σ H1
theorem fI {c:Expr} {body:List Stmt} {tc:TT} {tb:TS} (hp:PassesOwn (model X.prog X.w) X.A X.env X.xe) (hc:PT X c tc) (hb:PSs X body tb):PS X (.While c body [] pos) (xu tc tb):=by
 intro pins s σ H D I h;obtain⟨W,⟨m0,w0⟩,turn⟩:=h;refine wpAny_While (codeAny_whileLoop (λn s'=>∃σ' H',Inv X pins σ' H' s'/\W n σ' H') ?_ m0 ⟨σ,H,I,w0⟩);rintro n s1 ⟨σ1,H1,I1,w1⟩;refine wpAny_passesOwn hp (thn (hc pins s1 σ1 H1 _ I1 (turn n σ1 H1 w1)) λb s2 ⟨H2,I2,q2⟩=>?_)
 cases b with
 | true =>
  obtain⟨N,hN,q2⟩:=q2;rw[Qs rfl];refine wpAny_passesOwn hp (thn (hb pins s2 σ1 H2 _ I2 q2) λf s3 q3=>?_)
  cases f with
  | next =>
   obtain⟨σ3,H3,I3,n3⟩:=q3;obtain⟨m',hm,w3⟩:=hN σ3 H3 n3;exact⟨m',hm,σ3,H3,I3,w3⟩
  | cont =>
   obtain⟨σ3,H3,I3,n3⟩:=q3;obtain⟨m',hm,w3⟩:=hN σ3 H3 n3;exact⟨m',hm,σ3,H3,I3,w3⟩
  | brk=>exact q3
  | ret v=>exact q3
 | false =>
 rw[Qn Qr];exact wpAny_execs_nil ⟨σ1,H2,I2,q2⟩
end
structure It where
 go:Nat->Hp->Prop
 yld:Nat->Hp->V->Hp->Prop
 stop:Nat->Hp->Prop
def eE (X:Cx) (pins:A1) (H:Hp) (b:Addr):Prop :=
 H b=none/\b≠X.env.locals/\b∉X.fs/\(b∈X.ex\/X.s₀.heap.objs.size<=b)/\(∀x c,X.env.cells.lookup x=some c->c≠b)/\∀p∈X.pn++pins,p.1≠b
theorem Inv.fpOk {pins:A1} {σ:St} (I:Inv X pins σ H s) (hb:s.heap.objs.size<=b) (hn:H' b=none):eE X pins H' b:=by
 refine⟨hn,Nat.ne_of_gt (QO I.lt hb),I.nofs hb,.inr (QQ I.sz hb),λx c e z=>?_,λp hp z=>?_⟩
 ·obtain⟨v,q⟩:=I.cell x c e;exact absurd (QO q.lt (by rw[z];exact hb)) (X7 _)
 exact absurd (QO (Qt (I.pin p hp).1) (by rw[z];exact hb)) (X7 _)
structure Turn (P:Program) (w:World) (K:PySem.W.Frag) (tg:Expr) (J:It) (fp:A3) (it:Addr) (tn:Nat->Heap->Prop):Prop where
 mem:it∈fp
 obj:∀i h,tn i h->∀b∈fp,∃o,h.get? b=some o/\∀v,o.data≠.cell v
 keep:∀i h h',tn i h->(∀b∈fp,∀o,h.get? b=some o->h'.get? b=some o)->tn i h'
 item:∀(X:Cx),X.prog=P->X.w=w->X.K=K->X.calm=true->∀(i:Nat) (pins:A1) (s:Shared) (σ:St) (H:Hp) (E:A0),Inv X pins σ H s->(∀b∈fp,eE X pins H b)->tn i s.heap->J.go i H ->
  wpAny (model P w) X.A (pyNext (.ref it)) (λr s1=>∃u,r=some u /\
   wpAny (model P w) X.A (letOwnedTupleGo tg (.ref it) u) (λ_ s2=>∃x H',Inv X pins σ H' s2/\aN x u/\J.yld i H x H'/\tn (i+1) s2.heap/\∀b∈fp,H' b=none) E s1) E s
 done:∀(X:Cx),X.prog=P->X.w=w->X.K=K->X.calm=true->∀(i:Nat) (pins:A1) (s:Shared) (σ:St) (H:Hp) (E:A0),Inv X pins σ H s->(∀b∈fp,eE X pins H b)->tn i s.heap->J.stop i H ->
  wpAny (model P w) X.A (pyNext (.ref it)) (λr s1=>r=none/\Inv X pins σ H s1) E s
 self:∀(A:Around) (i:Nat) (s:Shared) (Q:A0) (E:A0),tn i s.heap->Q (.ref it) s->wpAny (model P w) A (pyIter (.ref it)) Q E s
abbrev TI:=St->Hp->(It->Hp->Prop)->Prop
def PIE (X:Cx) (pins:A1) (σ:St) (tg:Expr) (R:It->Hp->Prop) (itv:Value) (s2:Shared):Prop :=
 ∃(it:Addr) (fp:A3) (tn:Nat->Heap->Prop) (J:It) (H':Hp),itv=.ref it/\Inv X pins σ H' s2/\Turn X.prog X.w X.K tg J fp it tn/\tn 0 s2.heap/\(∀b∈fp,eE X pins H' b)/\R J H'
def PI (X:Cx) (tg iter:Expr) (wi:TI):Prop :=
 ∀(pins:A1) (s:Shared) (σ:St) (H:Hp) (R:It->Hp->Prop),Inv X pins σ H s->wi σ H R ->
  wpAny (model X.prog X.w) X.A (eval iter X.env) (λv s1=>wpAny (model X.prog X.w) X.A (pyIter v) (PIE X pins σ tg R) X.xe s1) X.xe s
theorem p9 {M:Model} {s:Shared} {o:Obj} {n:String} {vs:Array Value} {Q:Unit->Shared->Prop} (ho:s.heap.get? it=some o) (hc:o.cls=.type n) (hd:o.data=.fields vs)
  (hn:["enumerate", "zip", "dict_itemiterator", "dict_reverseitemiterator", "odict_iterator", "itertools.zip_longest", "itertools.pairwise"].contains n=false) (hQ:Q () s):wpAny M A (letOwnedTupleGo tg (.ref it) u) Q E s:=by
 unfold letOwnedTupleGo
 cases tg <;> first
  | exact Qf hQ
  | (cases u <;> first
    | exact Qf hQ
    |(refine Qa (wpAny_load ho ?_)
      rw[hc,hd];show wpAny M A (if (["enumerate", "zip", "dict_itemiterator", "dict_reverseitemiterator", "odict_iterator", "itertools.zip_longest", "itertools.pairwise"].contains n&&vs[0]?==some (rawInt _))=true then _ else _) Q E s;rw[Qn (by intro h;rw[hn,Bool.false_and]at h;cases h)]
      exact Qf hQ))
def Itl (K:PySem.W.Frag) (a:Addr):It :=
 ⟨λi H=>∃xs x,SqL K H a xs/\xs[i]?=some x,λi H x H'=>H'=H/\∀xs,SqL K H a xs->xs[i]?=some x,λi H=>∃xs,SqL K H a xs/\xs.length<=i⟩
def Itr (lo:Int) (n:Nat):It:=⟨λi _=>i<n,λi H x H'=>H'=H/\x=.int (lo+i),λi _=>n<=i⟩
theorem turn_list {P:Program} {w:World} {K:PySem.W.Frag} (a it:Addr):Turn P w K tg (Itl K a) [it] it (λi h=>h.IsListIter it a i) where
 mem:=by simp
 obj:=λi h st b hb=>by
  have e:b=it:=by simpa using hb
  subst e;obtain⟨o,e,c,d⟩:=st;exact⟨o,e,λv z=>by rw[d]at z;cases z⟩
 keep:=λi h h' st k=>st.at λo e=>k it (by simp) o e
 item:=by
  intro X hP hw hK hc i pins s σ H E I hf st hg;subst hP hw hK;obtain⟨xs,x,hq,hx⟩:=hg;obtain⟨its,rv,p,hz⟩:=I.list hq;obtain⟨u,hu,ru⟩:=rv.get hx;obtain⟨f0,f1,f2,f3,f4,f5⟩:=hf it (by simp);refine wpAny_pyNext_list_item st p.isList (x:=u) (by simpa using hu) λh' st' sb=>?_;have I1:Inv X pins σ H { s with heap:=h' }:=I.turned (t':=s.toks) (λb o hb e=>(sb.2 b hb).trans e) f0 f1 f3 f4 f5;obtain⟨o,e,c,d⟩:=id st';exact⟨u,rfl,p9 (s:={ s with heap:=h' }) e c d (by decide) ⟨x,H,I1,ru,⟨rfl,λys hy=>by rw[I.list_inj hy hq];exact hx⟩,st',λb hb=>(hf b hb).1⟩⟩
 done:=by
  intro X hP hw hK hc i pins s σ H E I hf st hg;subst hP hw hK;obtain⟨xs,hq,hx⟩:=hg;obtain⟨its,rv,p,hz⟩:=I.list hq;obtain⟨f0,f1,f2,f3,f4,f5⟩:=hf it (by simp);have hl:=rv.length;exact wpAny_pyNext_list_end (I.ok.hd hc) st p.isList (by simp;omega) λh' eb=>⟨rfl,I.turned (t':=s.toks) (λb o hb e=>eb b o hb e) f0 f1 f3 f4 f5⟩
 self:=λ_ _ _ _ _ st h=>wpAny_pyIter_listiter st h
theorem ny {P:Program} {w:World} {K:PySem.W.Frag} (it:Addr) (lo:Int) (n:Nat):Turn P w K tg (Itr lo n) [it] it (λi h=>IsRangeIter h it (lo+(i:Nat)*1) ((n:Int)-(i:Nat)) 1) where
 mem:=by simp
 obj:=λi h st b hb=>by
  have e:b=it:=by simpa using hb
  subst e
  exact⟨_,st,λv z=>by
   have z':Data.fields _=Data.cell v:=z
   cases z'⟩
 keep:=λi h h' st k=>k it (by simp) _ st
 item:=by
  intro X hP hw hK hc i pins s σ H E I hf st hg;subst hP hw hK;obtain⟨f0,f1,f2,f3,f4,f5⟩:=hf it (by simp);have W:=Walks.range (prog:=X.prog) (w:=X.w) (I.ok.hd hc) it lo 1 n;refine W.item i s _ _ hg st λv h' tk hv st' kk=>?_;obtain⟨t,rfl⟩:=hv;have I1:Inv X pins σ H { s with heap:=h',toks:=tk }:=I.turned (λb o hb e=>kk b o (by simpa using hb) e) f0 f1 f3 f4 f5;refine⟨_,rfl,p9 (s:={ s with heap:=h',toks:=tk }) (n := "range_iterator") st' rfl rfl (by decide) ⟨.int (lo+i),H,I1,⟨t,?_⟩,⟨rfl,rfl⟩,st',λb hb=>(hf b hb).1⟩⟩;rw[Int.mul_one]
 done:=by
  intro X hP hw hK hc i pins s σ H E I hf st hg;subst hP hw hK;obtain⟨f0,f1,f2,f3,f4,f5⟩:=hf it (by simp);exact wpAny_pyNext_range_end (I.ok.hd hc) st (by have:n<=i:=hg;omega) λh' eb=>⟨rfl,I.turned (t':=s.toks) (λb o hb e=>eb b o hb e) f0 f1 f3 f4 f5⟩
 self:=λ_ _ _ _ _ st h=>wpAny_pyIter_rangeiter st h
section
variable {X:Cx} {tg:Expr}
def mO (K:PySem.W.Frag) (tl:TE):TI:=λσ H R=>tl σ H λx H1=>∃a,x=.ref a/\(∃xs,SqL K H1 a xs)/\R (Itl K a) H1
theorem br {l:Expr} {tl:TE} (hl:PE X l tl):PI X tg l (mO X.K tl):=by
 intro pins s σ H R I h;refine thn (hl pins s σ H _ I h) λv s1 ⟨x,H1,I1,r1,q1⟩=>?_;obtain⟨a,e,⟨xs,hq⟩,q⟩:=q1;subst e;cases r1;obtain⟨its,rv,p,hz⟩:=I1.list hq;refine wpAny_pyIter_list p.isList ?_;refine⟨s1.heap.objs.size,[s1.heap.objs.size],_,_,H1,rfl,I1.kept (t':=s1.toks) λb o e=>Qe _ e,turn_list a _,⟨_,Qy _ rfl,rfl,rfl⟩,λb hb=>?_,q⟩;have e:b=s1.heap.objs.size:=by simpa using hb
 subst e;exact I1.fpOk (Qg _) (I1.hok.fresh (Qg _))
variable {s:Shared} {pins pl:A1}
theorem lV {σ:St} {H:Hp} {R:It->Hp->Prop} {E:A0} {lo hi:Int} {t u v:Tok} {tk:Nat} (I:Inv X pins σ H s) (h1:-(2 ^ 62)<=lo) (h2:lo<2 ^ 62) (h3:-(2 ^ 62)<=hi) (h4:hi<2 ^ 62)
  (q:R (Itr lo (hi-lo).toNat) H):wpAny (model X.prog X.w) X.A (pyIter (.ref s.heap.objs.size)) (PIE X pins σ tg R) E { s with heap:=s.heap.push { cls:=.type "range", data:=.fields #[.int lo t,.int hi u,.int 1 v] },toks:=tk }:=by
 refine wpAny_pyIter_range (IsRange.new ..) (small_one h1 h2 h3 h4) ?_;have I1:Inv X pins σ H { s with heap:=s.heap.push { cls:=.type "range", data:=.fields #[.int lo t,.int hi u,.int 1 v] },toks:=tk }:=I.kept λb o e=>Qe _ e
 refine⟨(s.heap.push { cls:=.type "range", data:=.fields #[.int lo t,.int hi u,.int 1 v] }).objs.size,[(s.heap.push { cls:=.type "range", data:=.fields #[.int lo t,.int hi u,.int 1 v] }).objs.size],_,_,H,rfl,
  I1.kept (t':=tk) λb o e=>Qe _ e,ny _ lo (hi-lo).toNat,?_,λb hb=>?_,q⟩
 ·have e1:lo+((0:Nat):Int)*1=lo:=by simp
  have e2:(((hi-lo).toNat:Nat):Int)-((0:Nat):Int)=Builtin.Range.rangeSize lo hi 1:=by rw[rangeSize_one];split <;> omega
  show IsRangeIter _ _ (lo+((0:Nat):Int)*1) ((((hi-lo).toNat:Nat):Int)-((0:Nat):Int)) 1;rw[e1,e2];exact Qy _ rfl
 have e:b=(s.heap.push { cls:=.type "range", data:=.fields #[.int lo t,.int hi u,.int 1 v] }).objs.size:=by simpa using hb
 subst e;exact I1.fpOk (Qg _) (I1.hok.fresh (Qg _))
def w_ (ta:TA):TI:=λσ H R=>ta σ H λvs H1=>∃j:Int,vs=[.int j]/\-(2 ^ 62)<=j/\j<2 ^ 62/\R (Itr 0 j.toNat) H1
def w9 (ta:TA):TI:=λσ H R=>ta σ H λvs H1=>∃i j:Int,vs=[.int i,.int j]/\(-(2 ^ 62)<=i/\i<2 ^ 62/\-(2 ^ 62)<=j/\j<2 ^ 62)/\R (Itr i (j-i).toNat) H1
theorem cD {a:Expr} {ta:TA} {p pos:Pos} (hg:Gl X "range") (hm:X.mg "range" = none) (ha:PA X [a] ta) (hs:starEach [a] X.env=[(false,eval a X.env)]:=by rfl):PI X tg (.Call (.Name "range" p) [a] [] pos) (w_ ta):=by
 intro pins s σ H R I h;refine Call_ (dH I hg hm boot_range (Xz (thn (ha pos pins s σ H _ I h) λus s1 ⟨vs,H1,I1,r1,q1⟩=>?_) hs rfl));obtain⟨j,e,q1,q2,q⟩:=q1;subst e
 cases r1 with
 | cons r rr =>
 cases rr;obtain⟨t,rfl⟩:=r;exact call_range_1 (lV I1 (by omega) (by omega) q1 q2 (by simpa using q))
theorem jq {a b:Expr} {ta:TA} {p pos:Pos} (hg:Gl X "range") (hm:X.mg "range" = none) (ha:PA X [a,b] ta) (hs:starEach [a,b] X.env=[(false,eval a X.env),(false,eval b X.env)]:=by rfl) (hs2:starEach [b] X.env=[(false,eval b X.env)]:=by rfl) :
  PI X tg (.Call (.Name "range" p) [a,b] [] pos) (w9 ta):=by
 intro pins s σ H R I h;refine Call_ (dH I hg hm boot_range (Xz (thn (ha pos pins s σ H _ I h) λus s1 ⟨vs,H1,I1,r1,q1⟩=>?_) (by rw[hs,hs2]) (by rw[hs2];rfl)));obtain⟨i,j,e,⟨q1,q2,q3,q4⟩,q⟩:=q1;subst e
 cases r1 with
 | cons r rr =>
 cases rr with
 | cons r' rr =>
 cases rr;obtain⟨t,rfl⟩:=r;obtain⟨t',rfl⟩:=r';exact call_range_2 (lV I1 q1 q2 q3 q4 q)
def yL (wi:TI) (g:TG) (tb:TS):TS:=λD σ H=>wi σ H λJ H1=>∃W:Nat->Nat->St->Hp->Prop,(∃m,W 0 m σ H1)/\∀i m σ H,W i m σ H ->
 (J.stop i H/\D.nx σ H)\/(J.go i H/\∃N:St->Hp->Prop,(∀σ' H',N σ' H'->∃m',m'<m/\W (i+1) m' σ' H')/\∀x H',J.yld i H x H'->g x σ H' λσ2 H2=>tb { D with nx:=N,ct:=N,bk:=D.nx } σ2 H2)
def f8 (fp:A3) (h:Heap):A1:=fp.filterMap λb=>(h.get? b).map λo=>(b,o)
variable {fp:A3}
theorem cF {h:Heap} {b:Addr} {o:Obj} (hb:b∈fp) (e:h.get? b=some o):(b,o)∈f8 fp h:=List.mem_filterMap.mpr ⟨b,hb,by rw[e];rfl⟩
theorem qW {h:Heap} {p:Addr × Obj} (hp:p∈f8 fp h):p.1∈fp/\h.get? p.1=some p.2:=by
 obtain⟨b,hb,e⟩:=List.mem_filterMap.mp hp
 cases q:h.get? b with
 | none=>rw[q]at e;cases e
 | some o =>
 rw[q]at e;have e':(b,o)=p:=QC e;subst e';exact⟨hb,q⟩
theorem Inv.pinned {σ:St} {H:Hp} (I:Inv X pins σ H s) (hf:∀b∈fp,eE X pins H b) (ho:∀b∈fp,∃o,s.heap.get? b=some o/\∀v,o.data≠.cell v):Inv X (pins++f8 fp s.heap) σ H s :=
 I.pins_of λp hp=>(Qz.mp hp).elim (λz=>I.pin p (QI _ z)) λz=>by
  obtain⟨hb,e⟩:=qW z;obtain⟨f0,f1,f2,_⟩:=hf p.1 hb;obtain⟨o,e',d⟩:=ho p.1 hb;rw[e]at e';cases e';exact⟨e,f0,f1,f2,d⟩
theorem Inv.unpinned {σ:St} {H:Hp} (I:Inv X (pins++pl) σ H s):Inv X pins σ H s:=I.pins_of λp hp=>I.pin p (QI _ (Xa _ hp))
theorem ps_for {iter:Expr} {body:List Stmt} {wi:TI} {g:TG} {tb:TS} {pos:Pos} (hp:PassesOwn (model X.prog X.w) X.A X.env X.xe) (hc:X.calm=true) (hi:PI X tg iter wi) (hg:PG X tg g) (hb:PSs X body tb)
  (hs:∀x,foldedSetIterable iter X.env x=pure x:=by intro _;rfl):PS X (.For tg iter body [] pos) (yL wi g tb):=by
 intro pins s σ H D I h;refine wpAny_For (thn (hi pins s σ H _ I h) λv s1 h1=>thn h1 λitv s2 h2=>?_) hs;obtain⟨it,fp,tn,J,H2,e,I2,T,st2,f2,W,⟨m0,w0⟩,turn⟩:=h2;subst e
 -- what stays true of the iterator's objects through the loop
 have stat:∀{H':Hp},(∀b∈fp,H' b=none)->∀b∈fp,eE X pins H' b:=λhn b hb=>⟨hn b hb,(f2 b hb).2⟩;refine codeAny_forLoop_any (λn s'=>∃i σ' H',Inv X pins σ' H' s'/\tn i s'.heap/\(∀b∈fp,H' b=none)/\W i n σ' H') ?_ m0 ⟨0,σ,H2,I2,st2,λb hb=>(f2 b hb).1,w0⟩;rintro n s3 ⟨i,σ3,H3,I3,st3,fr3,w3⟩;rcases turn i n σ3 H3 w3 with⟨stop,qn⟩|⟨go,N,hN,step⟩
 ·refine wpAny_passesOwn hp (thn (T.done X rfl rfl rfl hc i pins s3 σ3 H3 X.xe I3 (stat fr3) st3 stop) λr s4 ⟨hr,I4⟩=>?_);subst hr;exact wpAny_execs_nil ⟨σ3,H3,I4,qn⟩
 refine wpAny_passesOwn hp (thn (T.item X rfl rfl rfl hc i pins s3 σ3 H3 X.xe I3 (stat fr3) st3 go) λr s4 ⟨u,hr,h4⟩=>?_);subst hr;refine wpAny_passesOwn hp (thn h4 λ_ s5 ⟨x,H5,I5,r5,y5,st5,fr5⟩=>?_);have I5':=I5.pinned (stat fr5) (T.obj _ _ st5);refine wpAny_passesOwn hp (thn (hg _ s5 σ3 H5 x u _ I5' r5 (step x H5 y5)) λ_ s6 ⟨σ6,H6,I6,q6⟩=>?_);refine wpAny_passesOwn hp (thn (hb _ s6 σ6 H6 _ I6 q6) λf s7 q7=>?_)
 have again:∀{σ7:St} {H7:Hp},Inv X (pins++f8 fp s5.heap) σ7 H7 s7->N σ7 H7->∃m,m<n/\∃i σ' H',Inv X pins σ' H' s7/\tn i s7.heap/\(∀b∈fp,H' b=none)/\W i m σ' H':=λ{σ7 H7} I7 n7=>by
  obtain⟨m',hm,w7⟩:=hN σ7 H7 n7;refine⟨m',hm,i+1,σ7,H7,I7.unpinned,T.keep _ _ _ st5 λb hb o e=>(I7.pin (b,o) (QI _ (QI _ (cF hb e)))).1,λb hb=>?_,w7⟩;obtain⟨o,e,d⟩:=T.obj _ _ st5 b hb;exact(I7.pin (b,o) (QI _ (QI _ (cF hb e)))).2.1
 cases f with
 | next=>obtain⟨σ7,H7,I7,n7⟩:=q7;exact again I7 n7
 | cont=>obtain⟨σ7,H7,I7,n7⟩:=q7;exact again I7 n7
 | brk=>obtain⟨σ7,H7,I7,q7⟩:=q7;exact⟨σ7,H7,I7.unpinned,q7⟩
 | ret v=>obtain⟨x7,σ7,H7,I7,r7,q7⟩:=q7;exact⟨x7,σ7,H7,I7.unpinned,r7,q7⟩
end
theorem bY {K:PySem.W.Frag} {xs:List V} {g:TG} {tb:TS} {D:Ends} {σ:St} (Pv:Nat->St->Hp->Prop) (h0:Pv 0 σ H) (hl:∀i σ H,i<=xs.length->Pv i σ H->SqL K H a xs)
  (hs:∀i x σ H,xs[i]?=some x->Pv i σ H->g x σ H λσ2 H2=>tb { D with nx:=Pv (i+1),ct:=Pv (i+1),bk:=D.nx } σ2 H2) (hd:∀σ H,Pv xs.length σ H->D.nx σ H) :
  ∃W:Nat->Nat->St->Hp->Prop,(∃m,W 0 m σ H)/\∀i m σ H,W i m σ H ->
   ((Itl K a).stop i H/\D.nx σ H)\/((Itl K a).go i H/\∃N:St->Hp->Prop,(∀σ' H',N σ' H'->∃m',m'<m/\W (i+1) m' σ' H')/\∀x H',(Itl K a).yld i H x H'->g x σ H' λσ2 H2=>tb { D with nx:=N,ct:=N,bk:=D.nx } σ2 H2):=by
 refine⟨λi m σ H=>m=xs.length-i/\i<=xs.length/\Pv i σ H,⟨xs.length,by simp,QT _,h0⟩,?_⟩;rintro i m σ H ⟨rfl,hi,p⟩;have q:=hl i σ H hi p;by_cases hlt:i<xs.length
 ·refine .inr ⟨⟨xs,xs[i],q,by simp[hlt]⟩,Pv (i+1),λσ' H' p'=>⟨xs.length-(i+1),by omega,rfl,hlt,p'⟩,λx H' y=>?_⟩;obtain⟨e,y⟩:=y;subst e;exact hs i x σ _ (y xs q) p
 have e:i=xs.length:=by omega
 subst e;exact .inl ⟨⟨xs,q,Qg _⟩,hd σ H p⟩
theorem cU {lo:Int} {n:Nat} {g:TG} {tb:TS} {D:Ends} {σ:St} (Pv:Nat->St->Hp->Prop) (h0:Pv 0 σ H)
  (hs:∀i σ H,i<n->Pv i σ H->g (.int (lo+i)) σ H λσ2 H2=>tb { D with nx:=Pv (i+1),ct:=Pv (i+1),bk:=D.nx } σ2 H2) (hd:∀σ H,Pv n σ H->D.nx σ H) :
  ∃W:Nat->Nat->St->Hp->Prop,(∃m,W 0 m σ H)/\∀i m σ H,W i m σ H ->
   ((Itr lo n).stop i H/\D.nx σ H)\/((Itr lo n).go i H/\∃N:St->Hp->Prop,(∀σ' H',N σ' H'->∃m',m'<m/\W (i+1) m' σ' H')/\∀x H',(Itr lo n).yld i H x H'->g x σ H' λσ2 H2=>tb { D with nx:=N,ct:=N,bk:=D.nx } σ2 H2):=by
 refine⟨λi m σ H=>m=n-i/\i<=n/\Pv i σ H,⟨n,by simp,QT _,h0⟩,?_⟩;rintro i m σ H ⟨rfl,hi,p⟩;by_cases hlt:i<n
 ·refine .inr ⟨hlt,Pv (i+1),λσ' H' p'=>⟨n-(i+1),by omega,rfl,hlt,p'⟩,λx H' y=>?_⟩;obtain⟨e,y⟩:=y;subst e y;exact hs i σ _ hlt p
 have e:i=n:=by omega
 subst e;exact .inl ⟨Qg _,hd σ H p⟩
abbrev R2:=V->V->Hp->VK->Prop
def OpR (X:Cx) (f:Value->Value->Sem Value) (r:R2):Prop :=
 ∀(pins:A1) (s:Shared) (σ:St) (H:Hp) (x y:V) (v u:Value) (Q:VK),Inv X pins σ H s->aN x v->aN y u->r x y H Q ->
  wpAny (model X.prog X.w) X.A (f v u) (EP X pins σ Q) X.xe s
def UnR (X:Cx) (f:Value->Sem Value) (r:V->Hp->VK->Prop):Prop :=
 ∀(pins:A1) (s:Shared) (σ:St) (H:Hp) (x:V) (v:Value) (Q:VK),Inv X pins σ H s->aN x v->r x H Q ->
  wpAny (model X.prog X.w) X.A (f v) (EP X pins σ Q) X.xe s
def dR (X:Cx) (f:Value) (r:List V->Hp->VK->Prop):Prop :=
 ∀(pins:A1) (s:Shared) (σ:St) (H:Hp) (xs:List V) (us:List Value) (Q:VK),Inv X pins σ H s->aQ xs us->r xs H Q ->
  wpAny (model X.prog X.w) X.A (call f us) (EP X pins σ Q) X.xe s
def tOp (r:R2) (ta tb:TE):TE:=λσ H Q=>ta σ H λx H1=>tb σ H1 λy H2=>r x y H2 Q
def tUn (r:V->Hp->VK->Prop) (ta:TE):TE:=λσ H Q=>ta σ H λx H1=>r x H1 Q
def rI (C:Int->Int->Prop) (g:Int->Int->V):R2:=λx y H Q=>∃i j,x=.int i/\y=.int j/\C i j/\Q (g i j) H
def rI0 (g:Int->Int->V):R2:=λx y H Q=>∃i j,x=.int i/\y=.int j/\Q (g i j) H
def rU (g:Int->V):V->Hp->VK->Prop:=λx H Q=>∃i,x=.int i/\Q (g i) H
section
variable {X:Cx} {a b c:Expr} {ta tb tc:TE} {pos:Pos}
variable {f:Value->Value->Sem Value}
theorem yt (ha:PE X a ta) (hb:PE X b tb) {pins:A1} {s:Shared} {σ:St} {H:Hp} {R:V->V->Hp->Prop} (I:Inv X pins σ H s)
  (h:ta σ H λx H1=>tb σ H1 λy H2=>R x y H2) {Q:A0}
  (hf:∀v u s2 x y H2,Inv X pins σ H2 s2->aN x v->aN y u->R x y H2->wpAny (model X.prog X.w) X.A (f v u) Q X.xe s2) :
  wpAny (model X.prog X.w) X.A (eval a X.env) (λv s₁=>wpAny (model X.prog X.w) X.A (eval b X.env) (λu s₂=>wpAny (model X.prog X.w) X.A (f v u) Q X.xe s₂) X.xe s₁) X.xe s:=by
 refine thn (ha pins s σ H _ I h) λv s1 ⟨x,H1,I1,r1,q1⟩=>?_;refine thn (hb pins s1 σ H1 _ I1 q1) λu s2 ⟨y,H2,I2,r2,q2⟩=>?_;exact hf v u s2 x y H2 I2 r1 r2 q2
theorem aO {op:Operator} {r:R2} (ho:OpR X (binaryOp op) r) (ha:PE X a ta) (hb:PE X b tb):PE X (.BinOp a op b pos) (tOp r ta tb):=by
 intro pins s σ H Q I h;exact wpAny_BinOp (yt ha hb I h λv u s2 x y H2 I2 rx ry q=>ho pins s2 σ H2 x y v u Q I2 rx ry q)
theorem tz {op:UnaryOp} {r:V->Hp->VK->Prop} (ho:UnR X (unaryOp op) r) (ha:PE X a ta):PE X (.UnaryOp op a pos) (tUn r ta):=by
 intro pins s σ H Q I h;exact UnaryOp_ (thn (ha pins s σ H _ I h) λv s1 ⟨x,H1,I1,r1,q1⟩=>ho pins s1 σ H1 x v Q I1 r1 q1)
theorem opI {C:Int->Int->Prop} {g:Int->Int->Int}
  (rule:∀(i j:Int) (t u:Tok) (s:Shared) (Q:A0) (E:A0),C i j->Q (.int (g i j) s.toks) { s with toks:=s.toks+1 }->wpAny (model X.prog X.w) X.A (f (.int i t) (.int j u)) Q E s) :
  OpR X f (rI C λi j=>.int (g i j)):=by
 intro pins s σ H x y v u Q I rx ry h;obtain⟨i,j,rfl,rfl,hc,q⟩:=h;obtain⟨t,rfl⟩:=rx;obtain⟨t',rfl⟩:=ry;exact rule i j t t' s _ _ hc ⟨.int (g i j),H,I.tok _,⟨_,rfl⟩,q⟩
theorem y_ {g:Int->Int->Int}
  (rule:∀(i j:Int) (t u:Tok) (s:Shared) (Q:A0) (E:A0),Q (.int (g i j) s.toks) { s with toks:=s.toks+1 }->wpAny (model X.prog X.w) X.A (f (.int i t) (.int j u)) Q E s) :
  OpR X f (rI0 λi j=>.int (g i j)):=by
 intro pins s σ H x y v u Q I rx ry h;obtain⟨i,j,rfl,rfl,q⟩:=h;obtain⟨t,rfl⟩:=rx;obtain⟨t',rfl⟩:=ry;exact rule i j t t' s _ _ ⟨.int (g i j),H,I.tok _,⟨_,rfl⟩,q⟩
theorem xU {g:Int->Int->Bool}
  (rule:∀(i j:Int) (t u:Tok) (s:Shared) (Q:A0) (E:A0),Q (.bool (g i j)) s->wpAny (model X.prog X.w) X.A (f (.int i t) (.int j u)) Q E s) :
  OpR X f (rI0 λi j=>.bl (g i j)):=by
 intro pins s σ H x y v u Q I rx ry h;obtain⟨i,j,rfl,rfl,q⟩:=h;obtain⟨t,rfl⟩:=rx;obtain⟨t',rfl⟩:=ry;exact rule i j t t' s _ _ ⟨.bl (g i j),H,I,rfl,q⟩
def Aq (i j:Int):Prop:=0<j/\j<1073741824
def Ap (i j:Int):Prop:=0<=j/\j<=1000000/\i.natAbs<2 ^ 64
def yC (i j:Int):Prop:=(-(2 ^ 64)<i/\i<2 ^ 64)\/(-(2 ^ 64)<j/\j<2 ^ 64)
theorem yC.ok {i j:Int} (h:yC i j):IntMulOk i j:=by
 rcases h with⟨h1,h2⟩|⟨h1,h2⟩
 ·exact .of_left (intBits_le_64 h1 h2)
 exact .of_right (intBits_le_64 h1 h2)
theorem bX:OpR X (binaryOp .Add) (rI0 λi j=>.int (i+j)):=y_ λ_ _ _ _ _ _ _ q=>add_int q
theorem f9:OpR X (binaryOp .Sub) (rI0 λi j=>.int (i-j)):=y_ λ_ _ _ _ _ _ _ q=>sub_int q
theorem d7:OpR X (binaryOp .Mult) (rI yC λi j=>.int (i*j)):=opI λ_ _ _ _ _ _ _ hc q=>mul_int q hc.ok
theorem pP:OpR X (binaryOp .FloorDiv) (rI Aq λi j=>.int (i / j)):=opI λi j _ _ _ _ _ hc q=>by
 have h1:(0:Int)<j:=hc.1;have h2:j<1073741824:=hc.2;exact floordiv_int (by omega) (by rw[Int.fdiv_eq_ediv_of_nonneg i (by omega)];exact q) (.inl (PyProof.noPylong_small (by omega)))
theorem f_:OpR X (binaryOp .Mod) (rI (λ_ j=>0<j) λi j=>.int (i % j)):=opI λi j _ _ _ _ _ hc q=>by
 have h1:(0:Int)<j:=hc;exact mod_int' (by omega) (by rw[Int.fmod_eq_emod_of_nonneg i (by omega)];exact q)
theorem tK:OpR X (binaryOp .Pow) (rI Ap λi j=>.int (i ^ j.toNat)):=opI λ_ _ _ _ _ _ _ hc q=>pow_int_small hc.1 hc.2.1 hc.2.2 q
theorem unI {f:Value->Sem Value} {g:Int->Int}
  (rule:∀(i:Int) (t:Tok) (s:Shared) (Q:A0) (E:A0),Q (.int (g i) s.toks) { s with toks:=s.toks+1 }->wpAny (model X.prog X.w) X.A (f (.int i t)) Q E s) :
  UnR X f (rU λi=>.int (g i)):=by
 intro pins s σ H x v Q I rx h;obtain⟨i,rfl,q⟩:=h;obtain⟨t,rfl⟩:=rx;exact rule i t s _ _ ⟨.int (g i),H,I.tok _,⟨_,rfl⟩,q⟩
theorem nv:UnR X (unaryOp .USub) (rU λi=>.int (-i)):=unI λ_ _ _ _ _ q=>neg_int q
end
noncomputable def vh:V->V->Bool
 | .non,.non=>true|.non,.int _=>true|.int _,.non=>true|.non,.bl _=>true|.bl _,.non=>true|.non,.str _=>true|.str _,.non=>true
 | .int _,.int _=>true|.bl _,.bl _=>true|.str _,.str _=>true|.byt _,.byt _=>true
 | .int _,.str _=>true|.str _,.int _=>true|.bl _,.str _=>true|.str _,.bl _=>true
 | _,_=>false
def rEq:R2:=λx y H Q=>vh x y=true/\Q (.bl (decide (x=y))) H
def rNe:R2:=λx y H Q=>vh x y=true/\Q (.bl (!decide (x=y))) H
theorem qo {i j:Int}:decide (V.int i=V.int j)=(i==j):=by
 rw[X1];simp
theorem uI {i j:Bool}:decide (V.bl i=V.bl j)=(i==j):=by
 rw[X1];simp
theorem qm {i j:Str}:decide (V.str i=V.str j)=(i==j):=by
 rw[X1];simp
theorem qp {i j:Array UInt8}:decide (V.byt i=V.byt j)=(i.toList==j.toList):=by
 rw[X1];cases i;cases j;simp
section
variable {X:Cx} {a b c:Expr} {ta tb tc:TE} {pos:Pos}
theorem bc {pins:A1} {σ:St} {H:Hp} {s:Shared} {Q:VK} {k k':Bool} (I:Inv X pins σ H s) (q:Q (.bl k) H) (e:k=k'):EP X pins σ Q (.bool k') s:=by
 subst e;exact⟨.bl k,H,I,rfl,q⟩
theorem dP:OpR X (compareOp .Eq) rEq:=by
 intro pins s σ H x y v u Q I rx ry h;obtain⟨hs,q⟩:=h
 cases x with
 | non =>
  cases rx
  cases y with
  | non=>cases ry;exact PySem.EqNone.eq_none_none (bc I q (by simp))
  | bl j=>cases ry;exact PySem.EqNone.eq_none_bool (bc I q (by simp))
  | int j=>obtain⟨t',rfl⟩:=ry;exact PySem.EqNone.eq_none_int (bc I q (by simp))
  | str j=>obtain⟨t',rfl⟩:=ry;exact PySem.EqNone.eq_none_str (bc I q (by simp))
  | _=>exact absurd (show false=true from hs) Qr
 | bl i =>
  cases rx
  cases y with
  | non=>cases ry;exact PySem.EqNone.eq_bool_none (bc I q (by simp))
  | bl j=>cases ry;exact eq_bool (bc I q uI)
  | str j=>obtain⟨t',rfl⟩:=ry;exact PySem.EqMixed.eq_bool_str (bc I q (by simp))
  | _=>exact absurd (show false=true from hs) Qr
 | int i =>
  obtain⟨t,rfl⟩:=rx
  cases y with
  | non=>cases ry;exact PySem.EqNone.eq_int_none (bc I q (by simp))
  | int j=>obtain⟨t',rfl⟩:=ry;exact eq_int (bc I q qo)
  | str j=>obtain⟨t',rfl⟩:=ry;exact PySem.EqMixed.eq_int_str (bc I q (by simp))
  | _=>exact absurd (show false=true from hs) Qr
 | str i =>
  obtain⟨t,rfl⟩:=rx
  cases y with
  | non=>cases ry;exact PySem.EqNone.eq_str_none (bc I q (by simp))
  | bl j=>cases ry;exact PySem.EqMixed.eq_str_bool (bc I q (by simp))
  | int j=>obtain⟨t',rfl⟩:=ry;exact PySem.EqMixed.eq_str_int (bc I q (by simp))
  | str j=>obtain⟨t',rfl⟩:=ry;exact eq_str (bc I q qm)
  | _=>exact absurd (show false=true from hs) Qr
 | byt i =>
  obtain⟨t,rfl⟩:=rx
  cases y with
  | byt j=>obtain⟨t',rfl⟩:=ry;exact PySem.W.eq_bytes (bc I q qp)
  | _=>exact absurd (show false=true from hs) Qr
 | _=>cases y <;> exact absurd (show false=true from hs) Qr
theorem l9:OpR X (compareOp .NotEq) rNe:=by
 intro pins s σ H x y v u Q I rx ry h;obtain⟨hs,q⟩:=h
 cases x with
 | non =>
  cases rx
  cases y with
  | non=>cases ry;exact PySem.EqNone.ne_none_none (bc I q (by simp))
  | bl j=>cases ry;exact PySem.EqNone.ne_none_bool (bc I q (by simp))
  | int j=>obtain⟨t',rfl⟩:=ry;exact PySem.EqNone.ne_none_int (bc I q (by simp))
  | str j=>obtain⟨t',rfl⟩:=ry;exact PySem.EqNone.ne_none_str (bc I q (by simp))
  | _=>exact absurd (show false=true from hs) Qr
 | bl i =>
  cases rx
  cases y with
  | non=>cases ry;exact PySem.EqNone.ne_bool_none (bc I q (by simp))
  | bl j=>cases ry;exact ne_bool (bc I q (congrArg not uI))
  | str j=>obtain⟨t',rfl⟩:=ry;exact PySem.EqMixed.ne_bool_str (bc I q (by simp))
  | _=>exact absurd (show false=true from hs) Qr
 | int i =>
  obtain⟨t,rfl⟩:=rx
  cases y with
  | non=>cases ry;exact PySem.EqNone.ne_int_none (bc I q (by simp))
  | int j=>obtain⟨t',rfl⟩:=ry;exact ne_int (bc I q (congrArg not qo))
  | str j=>obtain⟨t',rfl⟩:=ry;exact PySem.EqMixed.ne_int_str (bc I q (by simp))
  | _=>exact absurd (show false=true from hs) Qr
 | str i =>
  obtain⟨t,rfl⟩:=rx
  cases y with
  | non=>cases ry;exact PySem.EqNone.ne_str_none (bc I q (by simp))
  | bl j=>cases ry;exact PySem.EqMixed.ne_str_bool (bc I q (by simp))
  | int j=>obtain⟨t',rfl⟩:=ry;exact PySem.EqMixed.ne_str_int (bc I q (by simp))
  | str j=>obtain⟨t',rfl⟩:=ry;exact ne_str (bc I q (congrArg not qm))
  | _=>exact absurd (show false=true from hs) Qr
 | byt i =>
  obtain⟨t,rfl⟩:=rx
  cases y with
  | byt j=>obtain⟨t',rfl⟩:=ry;exact PySem.W.ne_bytes (bc I q (congrArg not qp))
  | _=>exact absurd (show false=true from hs) Qr
 | _=>cases y <;> exact absurd (show false=true from hs) Qr
theorem l_:OpR X (compareOp .Lt) (rI0 λi j=>.bl (decide (i<j))):=xU λ_ _ _ _ _ _ _ q=>lt_int q
theorem mh:OpR X (compareOp .Gt) (rI0 λi j=>.bl (decide (j<i))):=xU λ_ _ _ _ _ _ _ q=>gt_int q
theorem wX:OpR X (compareOp .GtE) (rI0 λi j=>.bl (decide (j<=i))):=xU λ_ _ _ _ _ _ _ q=>ge_int q
theorem pO:OpR X (compareOp .IsNot) (λx y H Q=>y=.non/\Q (.bl (!decide (x=.non))) H):=by
 intro pins s σ H x y v u Q I rx ry h;obtain⟨rfl,q⟩:=h;cases ry;refine isnot_none_gen (bc I q ?_)
 cases x <;> first
  | (cases rx;rfl)
  | (obtain⟨t,rfl⟩:=rx;rfl)
variable {op:CmpOp}
theorem aJ (b:Expr) (h:op≠.In:=by decide) (h2:op≠.NotIn:=by decide):behindInMarks op b=false:=by
 have e1:(op==CmpOp.In)=false:=by cases op <;> first|rfl|exact absurd rfl h
 have e2:(op==CmpOp.NotIn)=false:=by cases op <;> first|rfl|exact absurd rfl h2
 cases b <;> simp[behindInMarks,e1,e2]
theorem cK {r:R2} (ho:OpR X (compareOp op) r) (ha:PE X a ta) (hb:PE X b tb) (hm:behindInMarks op b=false):PE X (.Compare a [op] [b] pos) (tOp r ta tb):=by
 intro pins s σ H Q I h;exact wpAny_Compare1 (yt ha hb I h λv u s2 x y H2 I2 rx ry q=>ho pins s2 σ H2 x y v u Q I2 rx ry q) hm
def rY (t:TE):TT:=λσ H Q=>t σ H λx H'=>∃k,x=.bl k/\Q k H'
theorem aB {r:R2} (ho:OpR X (compareOp op) r) (ha:PE X a ta) (hb:PE X b tb) (hm:behindInMarks op b=false):PT X (.Compare a [op] [b] pos) (rY (tOp r ta tb)):=by
 intro pins s σ H Q I h
 refine wpAny_isTrue_Compare1 (thn (ha pins s σ H _ I h) λv s1 ⟨x,H1,I1,r1,q1⟩=>thn (hb pins s1 σ H1 _ I1 q1) λu s2 ⟨y,H2,I2,r2,q2⟩ =>
  thn (ho pins s2 σ H2 x y v u _ I2 r1 r2 q2) λc s3 ⟨z,H3,I3,r3,k,e,q3⟩=>?_) hm
 subst e;cases r3;exact wpAny_truthy_bool ⟨H3,I3,q3⟩
theorem ge:(sizeLine:Nat)<2 ^ 63:=by rw[XQ];decide
theorem b9:OpR X (binaryOp .Add) (λx y H Q=>∃i j,x=.str i/\y=.str j/\i.length+j.length<=sizeLine/\Q (.str (i++j)) H):=by
 intro pins s σ H x y v u Q I rx ry h;obtain⟨i,j,rfl,rfl,hz,q⟩:=h;obtain⟨t,rfl⟩:=rx;obtain⟨t',rfl⟩:=ry;exact add_str (λt' tk=>⟨.str (i++j),H,I.tok _,⟨_,rfl⟩,q⟩) hz
theorem dh {x:V} {us:List Value} (r:aQ [x] us):∃u,us=[u]/\aN x u:=by
 cases r with
 | cons r1 r2=>cases r2;exact⟨_,rfl,r1⟩
theorem lC {x y:V} {us:List Value} (r:aQ [x,y] us):∃u w',us=[u,w']/\aN x u/\aN y w':=by
 cases r with
 | cons r1 r2 =>
 cases r2 with
 | cons r3 r4=>cases r4;exact⟨_,_,rfl,r1,r3⟩
theorem rH (hc:X.calm=true):dR X (.builtin "max") (λxs H Q=>∃i j,xs=[.int i,.int j]/\Q (.int (if j>i then j else i)) H):=by
 intro pins s σ H xs us Q I r h;obtain⟨i,j,rfl,q⟩:=h;obtain⟨u,w',rfl,⟨t,rfl⟩,⟨t',rfl⟩⟩:=lC r;refine max_two_ints (I.ok.hd hc) λh' tk k=>⟨_,H,I.kept k,?_,q⟩;by_cases hj:j>i
 ·rw[Qs hj,Qs hj];exact⟨_,rfl⟩
 rw[Qn hj,Qn hj];exact⟨_,rfl⟩
theorem gj (hc:X.calm=true):dR X (.builtin "min") (λxs H Q=>∃i j,xs=[.int i,.int j]/\Q (.int (if j<i then j else i)) H):=by
 intro pins s σ H xs us Q I r h;obtain⟨i,j,rfl,q⟩:=h;obtain⟨u,w',rfl,⟨t,rfl⟩,⟨t',rfl⟩⟩:=lC r;refine min_two_ints (I.ok.hd hc) λh' tk k=>⟨_,H,I.kept k,?_,q⟩;by_cases hj:j<i
 ·rw[Qs hj,Qs hj];exact⟨_,rfl⟩
 rw[Qn hj,Qn hj];exact⟨_,rfl⟩
theorem cI:dR X (.type "int") (λxs H Q=>(∃i,xs=[.int i]/\Q (.int i) H)\/∃k,xs=[.bl k]/\Q (.int (if k then 1 else 0)) H):=by
 intro pins s σ H xs us Q I r h;rcases h with⟨i,rfl,q⟩|⟨k,rfl,q⟩
 ·obtain⟨u,rfl,t,rfl⟩:=dh r;exact call_int_int ⟨.int i,H,I,⟨_,rfl⟩,q⟩
 obtain⟨u,rfl,r1⟩:=dh r;cases r1;exact call_int_bool ⟨.int (if k then 1 else 0),H,I.tok _,⟨_,rfl⟩,q⟩
end
structure ObjM (h:Heap) (x dx C:Addr) (mA:A2):Prop where
 obj:h.get? x=some (PySem.W.instObj C dx)
 ns:h.Ns1 dx mA
 ne:dx≠x
section
variable {prog:Program} {w:World} {A:Around} {E:A0} {s:Shared} {K:PySem.W.Frag} {x dx C f:Addr} {mA:A2} {name:Str} {v:Value}
end
theorem fW.some_of {v:V} {o:Option Value} (r:fW (some v) o):∃u,o=some u/\aN v u:=by
 cases o with
 | none=>exact(show False from r).elim
 | some u=>exact⟨u,rfl,r⟩
theorem fW.none_of {o:Option Value} (r:fW none o):o=none:=by
 cases o with
 | none=>rfl
 | some u=>exact(show False from r).elim
section
variable {P:Program} {w:World} {H H':Hp} {h h':Heap} {a C dx:Addr} {fs fs':List (Str × V)}
end
structure Cls (K:PySem.W.Frag) (C:Addr):Prop where
 pg:PySem.W.plainGet K C Str.empty=true
 hd:PySem.W.hasDictIn K C=true
 po:PySem.W.plainOver K C=true
 sa:PySem.W.findIn K (.ref C) "__setattr__" = some (some (.builtin "object.__setattr__"))
theorem Cls.get {K:PySem.W.Frag} (c:Cls K C) (f:Str):PySem.W.plainGet K C f=true:=c.pg
structure Con (K:PySem.W.Frag) (C:Addr) (f:Str) (v:V) (u:Value):Prop where
 at_:PySem.W.findIn K (.ref C) f=some (some u)
 rel:aN v u
 get:PySem.W.specialIn K u "__get__" = some none
 cp:PySem.W.copiedNames.contains f=false
structure Meth (K:PySem.W.Frag) (C:Addr) (m:Str) (f:Addr):Prop where
 at_:PySem.W.findIn K (.ref C) m=some (some (.ref f))
 fn:PySem.W.isFn K (.ref f)=true
 kp:PySem.W.keepIn K (.ref f)=true
section
variable {X:Cx} {pins:A1} {σ:St} {H:Hp} {s:Shared} {a C dx:Addr} {fs:List (Str × V)} {f:Str} {v:V} {A:Around} {E:A0}
end
section
variable {X:Cx} {o e value:Expr} {f:Str} {pos pos' tpos:Pos} {ta tv:TE}
end
section
variable {X:Cx} {pins:A1} {σ:St} {H:Hp} {s:Shared} {A:Around} {E:A0} {Q:A0} {c:Value} {b:Bool}
inductive TyOf (K:PySem.W.Frag) (H:Hp):V->Value->Prop where
 | non:TyOf K H .non (.type "NoneType")
 | bl (x:Bool):TyOf K H (.bl x) (.type "bool")
 | int (i:Int):TyOf K H (.int i) (.type "int")
 | str (x:Str):TyOf K H (.str x) (.type "str")
 | flt (x:UInt64):TyOf K H (.flt x) (.type "float")
 | lst {a:Addr} {xs:List V} (e:H a=some (.lst xs)):TyOf K H (.ref a) (.type "list")
 | frz {a:Addr} {o:Obj} {xs:List V} (e:H a=some (.frz o (.lst xs))):TyOf K H (.ref a) (.type "list")
 | tup {a:Addr} {xs:List V} (e:H a=some (.tup xs)):TyOf K H (.ref a) (.type "tuple")
 | dK {a:Addr} {kvs:List (Key × V)} (e:H a=some (.dK kvs)):TyOf K H (.ref a) (.type "dict")
 | dT {a:Addr} {kvs:List (av × V)} (e:H a=some (.dT kvs)):TyOf K H (.ref a) (.type "dict")
 | ins {a C dx:Addr} {fs:List (Str × V)} (e:H a=some (.ins C dx fs)) (cl:Cls K C) (ha:PySem.W.findIn K (.ref C) "__class__" = some (some (.builtin "object.__class__")))
   (hn:PySem.W.specialIn K (.builtin "object.__class__") "__get__" = some (some (.builtin "getset_descriptor.__get__"))) (htk:PySem.W.takesIn K (.builtin "object.__class__")=some true)
   (hm:PySem.W.mroIn K C (.type "object")=some true):TyOf K H (.ref a) (.ref C)
end
structure Room (k:Nat) (A:Around):Prop where
 hd:A.handled=none
 dp:A.depth+3*k+5<recursionLimit
 un:A.units+16*k+200<cLine
theorem Room.mono {j k:Nat} (r:Room k A) (h:j<=k):Room j A:=⟨r.hd,by have:=r.dp;omega,by have:=r.un;omega⟩
theorem Room.deeper {k:Nat} (r:Room (k+1) A) (env:Env):Room k (A.deeper env) :=
 ⟨r.hd,by have:=r.dp;show A.depth+1+3*k+5<_;omega,by have:=r.un;show A.units+3+16*k+200<_;omega⟩
theorem Room.depth {k:Nat} (r:Room k A):A.depth<recursionLimit:=by have:=r.dp;omega
theorem Room.units {k:Nat} (r:Room k A):A.units+64<cLine:=by have:=r.un;omega
def j3:TA:=λ_ H Q=>Q [] H
def eO (ta:TE) (tr:TA):TA:=λσ H Q=>ta σ H λx H1=>tr σ H1 λxs H2=>Q (x::xs) H2
section
variable {X:Cx} {e:Expr} {es:List Expr} {te:TE} {t:TA} {pos:Pos}
theorem ac:PA X [] j3:=λ_ _ _ _ H Q I h=>Calls.spliced_nil ⟨[],H,I,.nil,h⟩
theorem aa (ha:PE X e te) (hr:PA X es t) (hs:starEach (e::es) X.env=(false,eval e X.env)::starEach es X.env:=by rfl):PA X (e::es) (eO te t):=by
 intro pos pins s σ H Q I h;rw[hs];show wpAny _ _ (spliced ((false,eval e X.env)::backTo pos (starEach es X.env))) _ _ s;refine Calls.spliced_cons (thn (ha pins s σ H _ I h) λu s1 ⟨x,H1,I1,r1,q1⟩=>?_);exact thn (hr pos pins s1 σ H1 _ I1 q1) λus s2 ⟨xs,H2,I2,r2,q2⟩=>⟨x::xs,H2,I2,.cons r1 r2,q2⟩
def rX (t:TA):TE:=λσ H Q=>t σ H λxs H1=>xs.length<=sizeLine/\∀p,H1 p=none->Q (.ref p) (upd H1 p (.tup xs))
def rZ (t:TA):TE:=λσ H Q=>t σ H λxs H1=>xs.length<=sizeLine/\∀p,H1 p=none->Q (.ref p) (upd H1 p (.lst xs))
theorem be {x1} (h:PA X es t):PE X (.Tuple es x1 pos) (rX t):=by
 intro pins s σ H Q I hq;refine wpAny_Tuple_spliced (thn (h pos pins s σ H _ I hq) λus s1 ⟨xs,H1,I1,r,z,q⟩=>⟨by rw[<-r.length];exact z,?_⟩);have hf:H1 s1.heap.objs.size=none:=I1.hok.fresh (Qg _);refine⟨.ref s1.heap.objs.size,upd H1 s1.heap.objs.size (.tup xs),I1.laid (t':=s1.toks) (λb u e=>Qe _ e) (Qg _) ?_,rfl,q _ hf⟩;exact⟨z,us,r,⟨_,Qy _ rfl,rfl,_,rfl⟩⟩
theorem a_ (h:PA X es t):PE X (.List es pos) (rZ t):=by
 intro pins s σ H Q I hq;refine wpAny_List_spliced (thn (h pos pins s σ H _ I hq) λus s1 ⟨xs,H1,I1,r,z,q⟩=>⟨by rw[<-r.length];exact z,?_⟩);have hf:H1 s1.heap.objs.size=none:=I1.hok.fresh (Qg _);refine⟨.ref s1.heap.objs.size,upd H1 s1.heap.objs.size (.lst xs),I1.laid (t':=s1.toks) (λb u e=>Qe _ e) (Qg _) ?_,rfl,q _ hf⟩;exact⟨z,us,0,r,Qy _ rfl⟩
end
abbrev Sp:=List V->Hp->VK->XK->Prop
abbrev CXT:=List Env->Hp->Shared->XK->A0
structure Env0 (P:Program) (w:World) (K:PySem.W.Frag) (mg:A2) (base:Heap) (A:Around) (outer:List Env) (s:Shared) (H:Hp):Prop where
 frames:A.frames=some outer
 mod:Mod K mg base
 bs:∀b o,base.get? b=some o->s.heap.get? b=some o/\H b=none
 bsz:base.objs.size<=s.heap.objs.size
 funs:s.heap.FunFrames base outer
 frf:∀b∈frs outer,H b=none
 hok:HOk P w H s.heap
 bare:AllBare s.gens
def CE (outer:List Env) (P:Program) (w:World) (H:Hp) (s:Shared) (Q:VK) (u:Value) (s':Shared):Prop :=
 ∃v H',s'.os=s.os/\AllBare s'.gens/\Un (frs outer) [] H H' s.heap s'.heap/\HOk P w H' s'.heap/\aN v u/\Q v H'
def CR (CX:CXT) (outer:List Env) (P:Program) (w:World) (H:Hp) (s:Shared) (Q:VK) (E:XK) (r:Result) (s':Shared):Prop :=
 match r with
 | .ok (.ret u)=>CE outer P w H s Q u s'
 | .ok _=>False
 | .error e=>CX outer H s E e s'
structure FnOk (P:Program) (w:World) (K:PySem.W.Frag) (mg:A2) (base:Heap) (CX:CXT) (k:Nat) (f:Addr) (fd:FuncData) (ps:List Str) (sp:Sp):Prop where
 len:∀vs H Q E,sp vs H Q E->vs.length=ps.length
 run:∀(A:Around) (outer:List Env) (s:Shared) (H:Hp) (args:Args) (us:List Value) (vs:List V) (Q:VK) (E:XK),Room k A->Env0 P w K mg base A outer s H->BindsTo s fd args (ps.zip us)->aQ vs us->sp vs H Q E ->
  codeAny (model P w) A (.call (.ref f) args) (CR CX outer P w H s Q E) s
section
variable {X:Cx} {pins:A1} {σ:St} {H:Hp} {s s':Shared}
theorem Inv.env0 (I:Inv X pins σ H s):Env0 X.prog X.w X.K X.mg X.base X.A X.stack s H :=
 ⟨I.ok.frames,I.ok.mod,I.bs,QQ I.ok.bsz I.sz,I.stack,I.stkFree,I.hok,I.bare⟩
theorem Inv.after {Q:VK} {u:Value} (I:Inv X pins σ H s) (h:CE X.stack X.prog X.w H s Q u s'):EP X pins σ Q u s':=by
 obtain⟨v,H',os,bare,un,hok,r,q⟩:=h;obtain⟨hh,g,d,t,os'⟩:=s';obtain rfl:os'=s.os:=os;exact⟨v,H',I.call (h':=hh) (g':=g) (d':=d) (t':=t) (ch:=[]) un hok bare (λb z=>absurd z (by simp)),r,q⟩
end
def pd (sp:Sp) (dvs:List V) (E:XK) (t:TA):TE:=λσ H Q=>t σ H λvs H1=>sp (vs++dvs) H1 Q E
def iY (K:PySem.W.Frag) (fd:FuncData) (ps:List Str) (ds:List Value):Prop :=
 ∀(s:Shared) (us:List Value),K.In s.heap->(us++ds).length=ps.length->BindsTo s fd ⟨us,[]⟩ (ps.zip (us++ds))
variable {ps N:List Str}
theorem iY.all {K:PySem.W.Frag} {fd:FuncData} (h:∀us:List Value,us.length=ps.length->bindArgs fd ⟨us,[]⟩=pure (ps.zip us)):iY K fd ps []:=λs us _ hl=>by
 rw[XG]at hl ⊢;exact .of_eq (h us hl)
def iX (CX:CXT) (X:Cx) (E:XK):Prop:=∀(pins:A1) (σ:St) (H:Hp) (s:Shared) (e:Value) (s':Shared),Inv X pins σ H s->CX X.stack H s E e s'->X.xe e s'
section
variable {X:Cx} {CX:CXT} {k:Nat} {f C:Addr} {fd:FuncData} {ps:List Str} {sp:Sp} {dvs:List V} {ds:List Value} {E:XK} {x m:Str} {p pos apos:Pos} {e o:Expr} {es:List Expr} {ta:TE} {t:TA}
theorem xD {pins:A1} {σ:St} {H:Hp} {s:Shared} {Q:VK} {us:List Value} {vs:List V} (F:FnOk X.prog X.w X.K X.mg X.base CX k f fd ps sp) (hr:Room k X.A) (hb:iY X.K fd ps ds) (hd:aQ dvs ds) (hx:iX CX X E)
  (I:Inv X pins σ H s) (r:aQ vs us) (h:sp (vs++dvs) H Q E):wpAny (model X.prog X.w) X.A (call (.ref f) us) (EP X pins σ Q) X.xe s:=by
 have r2:aQ (vs++dvs) (us++ds):=r.append hd;have hl:(us++ds).length=ps.length:=by rw[<-r2.length];exact F.len _ _ _ _ h
 refine wpAny_call (codeAny_mono (F.run X.A X.stack s H ⟨us,[]⟩ (us++ds) (vs++dvs) Q E hr I.env0 (hb s us I.kIn hl) r2 h) λr s' hq=>?_)
 cases r with
 | error e=>exact hx pins σ H s e s' I hq
 | ok fl =>
 cases fl with
 | ret u=>exact I.after hq
 | next=>exact False.elim hq
 | brk=>exact False.elim hq
 | cont=>exact False.elim hq
theorem vq (F:FnOk X.prog X.w X.K X.mg X.base CX k f fd ps sp) (hr:Room k X.A) (hg:Gl X x) (hm:X.mg x=some (.ref f)) (hk:PySem.W.keepIn X.K (.ref f)=true) (hb:iY X.K fd ps ds) (hd:aQ dvs ds) (hx:iX CX X E)
  (ha:PA X (e::es) t) (hdb:(x==("__debug__" : Str))=false:=by decide) (he:starEach (e::es) X.env=(false,eval e X.env)::starEach es X.env:=by rfl) (hpl:(backTo pos (starEach es X.env)).any (·.1)=false:=by rfl) :
  PE X (.Call (.Name x p) (e::es) [] pos) (pd sp dvs E t):=by
 intro pins s σ H Q I h;refine wpAny_Call_Name_kw (kJ I hg hm ?_ hdb);refine PySem.W.callWith_K (h₀:=X.base) I.ok.mod.kin hk (thn (ha pos pins s σ H _ I h) λus s1 ⟨vs,H1,I1,r,q⟩=>⟨I1.kIn,?_⟩) he hpl;exact xD F hr hb hd hx I1 r q
structure Mk (K:PySem.W.Frag) (C f:Addr):Prop where
 makes:PySem.W.makesIn K C=true
 init:PySem.W.findIn K (.ref C) "__init__" = some (some (.ref f))
 fn:PySem.W.isFn K (.ref f)=true
 kp:PySem.W.keepIn K (.ref C)=true
end
section
variable {X:Cx} {CX:CXT} {k:Nat} {f C:Addr} {fd:FuncData} {ps ks:List Str} {sp:Sp} {E:XK} {x m:Str} {p pos apos kpos:Pos} {e o:Expr} {es:List Expr} {kws:List Keyword} {te ta:TE} {t tk:TA} {nm:Option Str}
structure KBinds (K:PySem.W.Frag) (fd:FuncData) (ps ks:List Str) (g:List Value->List Value->List Value) (gV:List V->List V->List V):Prop where
 to:∀(s:Shared) (us ws:List Value),K.In s.heap->(g us ws).length=ps.length->BindsTo s fd ⟨us,ks.zip ws⟩ (ps.zip (g us ws))
 rel:∀{vs:List V} {us:List Value} {zs:List V} {ws:List Value},aQ vs us->aQ zs ws->aQ (gV vs zs) (g us ws)
variable {g:List Value->List Value->List Value} {gV:List V->List V->List V}
end
structure FnScope (N P:List Str) (sc:Scope):Prop where
 kind:sc.kind=.function
 co:sc.isCoroutine=false
 gen:sc.isGenerator=false
 nd:N.Nodup
 pre:N.take P.length=P
 par:∀x∈P,sc.names.lookup x=some .local\/sc.names.lookup x=some .cell
 nofree:∀y∈sc.names,y.2≠.free
theorem jQ {kindOf:Str->Option NameKind} {x:Str}:∀{binds:List (Str × Value)} {m:A2},(∀v,(x,v)∉binds)->bindL kindOf binds m x=m x
 | [],_,_=>rfl
 | (n,v)::r,m,h=>by
  unfold bindL;rw[jQ λw hw=>h w (Qp _ hw)]
  split
  ·have:x≠n:=by rintro rfl;exact h v Xp
   simp[this]
  rfl
theorem jS {kindOf:Str->Option NameKind} {x:Str}:∀{binds:List (Str × Value)} {m:A2},(∀v,(x,v)∉binds)->bindC kindOf binds m x=m x
 | [],_,_=>rfl
 | (n,v)::r,m,h=>by
  unfold bindC;rw[jS λw hw=>h w (Qp _ hw)]
  split
  ·rfl
  have:x≠n:=by rintro rfl;exact h v Xp
  simp[this]
theorem jR {kindOf:Str->Option NameKind} {x:Str} {v:Value}:∀{P:List Str} {vs:List Value} {i:Nat} {m:A2},P.Nodup->P[i]?=some x->vs[i]?=some v->kindOf x=some .local ->
  bindL kindOf (P.zip vs) m x=some v
 | [],_,_,_,_,h,_,_=>by simp at h
 | _::_,[],_,_,_,_,h,_=>by simp at h
 | p::P,w::vs,0,m,nd,h1,h2,hk=>by
  simp at h1 h2;subst h1;subst h2;show bindL kindOf ((p,w)::P.zip vs) m p=_;unfold bindL;rw[jQ λv hv=>(QS.mp nd).1 (List.of_mem_zip hv).1,Qs hk];simp
 | p::P,w::vs,i+1,m,nd,h1,h2,hk=>by
  show bindL kindOf ((p,w)::P.zip vs) m x=_;unfold bindL;exact jR (i:=i) (QS.mp nd).2 (by simpa using h1) (by simpa using h2) hk
theorem jT {kindOf:Str->Option NameKind} {x:Str} {v:Value}:∀{P:List Str} {vs:List Value} {i:Nat} {m:A2},P.Nodup->P[i]?=some x->vs[i]?=some v->kindOf x≠some .local ->
  bindC kindOf (P.zip vs) m x=some v
 | [],_,_,_,_,h,_,_=>by simp at h
 | _::_,[],_,_,_,_,h,_=>by simp at h
 | p::P,w::vs,0,m,nd,h1,h2,hk=>by
  simp at h1 h2;subst h1;subst h2;show bindC kindOf ((p,w)::P.zip vs) m p=_;unfold bindC;rw[jS λv hv=>(QS.mp nd).1 (List.of_mem_zip hv).1,Qn hk];simp
 | p::P,w::vs,i+1,m,nd,h1,h2,hk=>by
  show bindC kindOf ((p,w)::P.zip vs) m x=_;unfold bindC;exact jT (i:=i) (QS.mp nd).2 (by simpa using h1) (by simpa using h2) hk
def start (N:List Str) (vs:List V):St:=vs.map some++List.replicate (N.length-vs.length) none
noncomputable def cxOf (CX:CXT) (P:Program) (w:World) (K:PySem.W.Frag) (mg:A2) (base:Heap) (N:List Str) (qual:Str) (scope:Scope) (f:Addr) (cd:Value) (A:Around) (outer:List Env) (s:Shared) (H:Hp) (E:XK):Cx where
 prog:=P
 w:=w
 K:=K
 mg:=mg
 base:=base
 A:=A.deeper (envOfC qual scope s.heap.objs.size f cd)
 N:=N
 s₀:=s
 H₀:=H
 env:=envOfC qual scope s.heap.objs.size f cd
 outer:=outer
 stack:=envOfC qual scope s.heap.objs.size f cd::outer
 ex:=[]
 calm:=true
 fn:=λ_=>true
 pn:=[]
 xe:=λe s'=>wpAny (model P w) (A.deeper (envOfC qual scope s.heap.objs.size f cd)) (leaving (envOfC qual scope s.heap.objs.size f cd) e) (λ_ s''=>CX outer H s E e s'') (λe' s''=>CX outer H s E e' s'') s'
variable {sc scope:Scope}
theorem mW {n:Nat} {x:Str} (h:sc.names.lookup x=some .cell):∃c,(cellsFrom n sc.names []).lookup x=some c:=by
 have q:=PySem.W.cellsFrom_some sc.names n [] (.inl h);exact Option.isSome_iff_exists.mp q
theorem rh {CX:CXT} {P:Program} {w:World} {K:PySem.W.Frag} {mg:A2} {base:Heap} {qual:Str} {outer:List Env} {E:XK} {us:List Value} {vs:List V}
  (S:FnScope N ps scope) (hd:A.handled=none) (e0:Env0 P w K mg base A outer s H) (hl:vs.length=ps.length) (r:aQ vs us)
  (x:InCallC s s.heap.objs.size (bindL (envOfC qual scope s.heap.objs.size f cd).kindOf (ps.zip us) λ_=>none) (cellsFrom (s.heap.objs.size+1) scope.names []) (bindC (envOfC qual scope s.heap.objs.size f cd).kindOf (ps.zip us) λ_=>none) s1) :
  Inv (cxOf CX P w K mg base N qual scope f cd A outer s H E) [] (start N vs) H s1:=by
 have hpl:ps.length<=N.length:=by have:=congrArg List.length S.pre;rw[QN]at this;omega
 obtain⟨h1,tk,rfl,hk⟩:=x.done;have noA:∀b:Addr,b∉(cxOf CX P w K mg base N qual scope f cd A outer s H E).ex:=λb z=>absurd (show b∈([]:A3) from z) (by simp)
 refine⟨⟨e0.mod,S.kind,rfl,rfl,Qg _,λy z c h1 h2=>?_,λy hy=>?_,λy c _ h=>?_,λ_=>hd,Around.frames_deeper e0.frames,.inr ⟨rfl,rfl⟩,λb z=>absurd z (noA b),e0.bs,e0.bsz,λb _ _=>noA b,λb z=>absurd z (noA b),e0.funs,e0.frf⟩,
  rfl,e0.bare,Un.kept hk,⟨_,x.toInCall.ns,λi y v h1 h2 h3=>?_⟩,λy c h=>⟨_,x.cell y c h⟩,e0.hok.fresh (Qg _),λy c h=>?_,λp hp=>absurd (show p∈([]:A1) from hp) (by simp),e0.hok.kept hk,?_⟩
 ·exact name_of_addr x.apart (PySem.mem_of_lookup h1) (PySem.mem_of_lookup h2)
 ·have hy:scope.names.lookup y=some .cell\/scope.names.lookup y=some .free:=hy;rcases hy with hy|hy
  ·exact mW hy
  exact absurd rfl (S.nofree _ (PySem.mem_of_lookup hy))
 ·exact XT (x.above y c (PySem.mem_of_lookup h))
 ·have hi:i<vs.length:=by
   unfold start at h2;by_cases hi:i<vs.length
   ·exact hi
   rw[QJ (by simpa using hi)]at h2;rw[List.getElem?_replicate]at h2
   split at h2 <;> cases h2
  have ha:vs[i]?=some v:=by
   unfold start at h2;rw[QG (by simpa using hi),Qq]at h2
   cases e:vs[i]? with
   | none=>rw[e]at h2;cases h2
   | some a=>rw[e]at h2;cases h2;rfl
  obtain⟨u,hu,rv⟩:=r.get ha
  have hp:ps[i]?=some y:=by
   rw[<-S.pre,List.getElem?_take_of_lt (by omega)];exact h1
  have ndP:ps.Nodup:=by rw[<-S.pre];exact S.nd.sublist (List.take_sublist _ _)
  refine⟨u,rv,?_⟩;rcases S.par y (Qh hp) with k|k
  ·exact .inl ⟨k,jR ndP hp hu k⟩
  obtain⟨c,e⟩:=mW (n:=s.heap.objs.size+1) k;refine .inr ⟨.inl k,c,e,?_⟩;have q:=x.cell y c e;rw[jT ndP hp hu (by show scope.names.lookup y≠_;rw[k];decide)]at q;exact q
 ·exact e0.hok.fresh (XT (x.above y c (PySem.mem_of_lookup h)))
 unfold start;show _=N.length;rw[Qi,Qd,List.length_replicate];omega
theorem xc {CX:CXT} {P:Program} {w:World} {K:PySem.W.Frag} {mg:A2} {base:Heap} {k:Nat} {name qual:Str} {params:Arguments} {body:List Stmt} {kV:Value} {an od:Option Addr}
  {osl:Array (Option Value)} {sp:Sp} (lk:K.lookup f=some ⟨oc,od,.func (PySem.W.fnOf name qual params body scope dV kV doc pm an cdv ct),osl⟩) (hcd:PySem.W.codeIn K cdv qual=true) (S:FnScope N ps scope)
  (len:∀vs H Q E,sp vs H Q E->vs.length=ps.length)
  (hbody:∀(A:Around) (outer:List Env) (s:Shared) (H:Hp) (vs:List V) (Q:VK) (E:XK),Room k (A.deeper (envOfC qual scope s.heap.objs.size f cdv))->sp vs H Q E ->
   ∃t,PSs (cxOf CX P w K mg base N qual scope f cdv A outer s H E) body t/\t { nx:=λ_ H'=>Q .non H',rt:=Q } (start N vs) H) :
  FnOk P w K mg base CX (k+1) f (PySem.W.fnOf name qual params body scope dV kV doc pm an cdv ct) ps sp:=by
 refine⟨len,λA outer s H args us vs Q E hr e0 hb r hsp=>?_⟩;have hl:=len _ _ _ _ hsp;have KX:K.In s.heap:=e0.mod.kin.keeps λb o e=>(e0.bs b o e).1;have lim:s.heap.NoLimit:=e0.mod.nolimit.keeps λb o e=>(e0.bs b o e).1
 have hkind:∀y∈ps.zip us,scope.names.lookup y.1=some .local\/(scope.names.lookup y.1=some .cell/\((cellsFrom (s.heap.objs.size+1) scope.names []).lookup y.1).isSome=true):=λ⟨n,v⟩ hy=>by
  rcases S.par n (List.of_mem_zip hy).1 with q|q
  ·exact .inl q
  exact .inr ⟨q,PySem.W.cellsFrom_some _ _ _ (.inl q)⟩
 refine codeAny_call_function hr.depth (KX _ _ lk) rfl S.co S.gen rfl (PySem.W.codeRec_of KX hcd) (hb _ _ _ _ ?_);refine wpAny_newFunctionEnv_cells S.kind hkind λenv he s1 x=>?_;subst he;refine⟨lim.keeps x.toInCall.keep,codeAny_func ?_⟩;obtain⟨t,ht,hq⟩:=hbody A outer s H vs Q E (hr.deeper _) hsp;have I:Inv (cxOf CX P w K mg base N qual scope f cdv A outer s H E) [] (start N vs) H s1:=rh S hr.hd e0 hl r x;refine XV (ht [] s1 (start N vs) H _ I hq) (λfl s' hs=>?_) λe s' hs=>hs
 have fin:∀{σ':St} {H':Hp} {v:V} {u:Value},Inv (cxOf CX P w K mg base N qual scope f cdv A outer s H E) [] σ' H' s'->aN v u->Q v H'->CE outer P w H s Q u s' :=
  λ{σ' H' v u} J rv q=>⟨v,H',J.os,J.bare,J.base,J.hok,rv,q⟩
 cases fl with
 | ret u =>
  obtain⟨v,σ',H',J,rv,q⟩:=hs;exact fin J rv q
 | next =>
  obtain⟨σ',H',J,q⟩:=hs;exact fin (v:=V.non) (u:=Value.none) J rfl q
 | brk =>
  obtain⟨_,_,_,q⟩:=hs;exact False.elim q
 | cont =>
 obtain⟨_,_,_,q⟩:=hs;exact False.elim q
section
variable {X:Cx} {x:Str} {p pos:Pos} {e:Expr} {es:List Expr} {t:TA} {id T:String} {r:List V->Hp->VK->Prop}
def tCB (r:List V->Hp->VK->Prop) (t:TA):TE:=λσ H Q=>t σ H λvs H1=>r vs H1 Q
theorem aF (hc:dR X (.builtin id) r) (hg:Gl X x) (hm:X.mg x=none) (hv:bootBuiltins x=some (.builtin id)) (ha:PA X (e::es) t) (hn:x ≠ "__name__" := by decide) (hdb:(x==("__debug__" : Str))=false:=by decide)
  (he:starEach (e::es) X.env=(false,eval e X.env)::starEach es X.env:=by rfl) (hpl:(backTo pos (starEach es X.env)).any (·.1)=false:=by rfl):PE X (.Call (.Name x p) (e::es) [] pos) (tCB r t):=by
 intro pins s σ H Q I h;refine wpAny_Call_Name_kw (dH I hg hm hv ?_ hn hdb);exact PyProof.Rows.callWith_builtin1 (thn (ha pos pins s σ H _ I h) λus s1 ⟨vs,H1,I1,r1,q1⟩=>hc pins s1 σ H1 vs us Q I1 r1 q1) he hpl
theorem bw (hc:dR X (.type T) r) (hg:Gl X x) (hm:X.mg x=none) (hv:bootBuiltins x=some (.type T)) (ha:PA X (e::es) t) (hn:x ≠ "__name__" := by decide) (hdb:(x==("__debug__" : Str))=false:=by decide)
  (he:starEach (e::es) X.env=(false,eval e X.env)::starEach es X.env:=by rfl) (hpl:(backTo pos (starEach es X.env)).any (·.1)=false:=by rfl):PE X (.Call (.Name x p) (e::es) [] pos) (tCB r t):=by
 intro pins s σ H Q I h;refine wpAny_Call_Name_kw (dH I hg hm hv ?_ hn hdb);exact Xz (thn (ha pos pins s σ H _ I h) λus s1 ⟨vs,H1,I1,r1,q1⟩=>hc pins s1 σ H1 vs us Q I1 r1 q1) he hpl
end
end L2
namespace HT
open PySem PyProof.Rows
section
open PySem.SeqAt
open PySem.AutoSeq1 (wpAny_loadPart')
open PySem.MeetsSeq PySem.MeetsSeq2 PySem.MeetsSeq3
end
section
variable {prog:Program} {w:World} {A:Around} {E:A0} {s:Shared}
def sIx (n d:Nat):Option Int->Nat
 | none=>d
 | some v=>if v<0 then (v+(n:Int)).toNat else min v.toNat n
theorem lU (n d:Nat):sIx n d none=d:=rfl
theorem pB (n d k:Nat):sIx n d (some (k:Int))=min k n:=by
 show (if (k:Int)<0 then ((k:Int)+(n:Int)).toNat else min (k:Int).toNat n)=min k n;rw[Qn (by omega),Q2]
end
end HT
namespace L2
open PySem PySem.Spec PyProof.Rows
abbrev TO:=St->Hp->(Option Int->Hp->Prop)->Prop
def PO (X:Cx) (e:Option Expr) (t:TO):Prop :=
 ∀(pins:A1) (s:Shared) (σ:St) (H:Hp) (Q:Option Int->Hp->Prop),Inv X pins σ H s->t σ H Q ->
  wpAny (model X.prog X.w) X.A (evalPart e X.env) (λu s'=>∃o H',Inv X pins σ H' s'/\IsPart u o/\Q o H') X.xe s
def o0:TO:=λ_ H Q=>Q none H
def wI (t:TE):TO:=λσ H Q=>t σ H λx H1=>∃i,x=.int i/\Q (some i) H1
section
variable {X:Cx} {e:Expr} {te:TE} {lo hi:Option Expr} {tl th:TO} {pos p2:Pos}
theorem cR:PO X none o0:=by
 intro pins s σ H Q I h;rw[evalPart_none];exact Qf ⟨none,H,I,.none,h⟩
theorem cQ (h:PE X e te):PO X (some e) (wI te):=by
 intro pins s σ H Q I hw;rw[evalPart_some];refine thn (h pins s σ H _ I hw) λu s1 ⟨x,H1,I1,r1,q1⟩=>?_;obtain⟨i,rfl,q⟩:=q1;obtain⟨t,rfl⟩:=r1;exact⟨some i,H1,I1,.int i t,q⟩
def SlR (X:Cx) (r:V->Option Int->Option Int->Hp->VK->Prop):Prop :=
 ∀(pins:A1) (s:Shared) (σ:St) (H:Hp) (x:V) (v vl vu:Value) (lo hi:Option Int) (sl:Addr) (Q:VK),Inv X pins σ H s->aN x v->s.heap.IsSliceOf sl vl vu .none->IsPart vl lo->IsPart vu hi->r x lo hi H Q ->
  ∃T id,typeLookup (.type T) "__getitem__" = pure (some (.builtin id))/\s.TypeIs v T/\wpAny (model X.prog X.w) X.A (getItem v (.ref sl)) (EP X pins σ Q) X.xe s
def tSl (r:V->Option Int->Option Int->Hp->VK->Prop) (te:TE) (tl th:TO):TE:=λσ H Q=>te σ H λx H1=>tl σ H1 λl H2=>th σ H2 λu H3=>r x l u H3 Q
theorem cx {r:V->Option Int->Option Int->Hp->VK->Prop} (hr:SlR X r) (he:PE X e te) (hl:PO X lo tl) (hu:PO X hi th):PE X (.Subscript e (.Slice lo hi none p2) pos) (tSl r te tl th):=by
 intro pins s σ H Q I h;refine Subscript_ (thn (he pins s σ H _ I h) λv s1 ⟨x,H1,I1,r1,q1⟩=>?_);refine wpAny_Slice (thn (hl pins s1 σ H1 _ I1 q1) λvl s2 ⟨l,H2,I2,pl,q2⟩=>thn (hu pins s2 σ H2 _ I2 q2) λvu s3 ⟨u,H3,I3,pu,q3⟩=>?_);rw[evalPart_none];refine Qf ?_;have I4:Inv X pins σ H3 { s3 with heap:=s3.heap.push { cls:=.type "slice", data:=.fields #[vl,vu,.none] } }:=I3.kept (t':=s3.toks) λb ob q=>Qe _ q;obtain⟨T,id,hT,ht,hg⟩:=hr pins { s3 with heap:=s3.heap.push { cls:=.type "slice", data:=.fields #[vl,vu,.none] } } σ H3 x v vl vu l u s3.heap.objs.size Q I4 r1 (Heap.IsSliceOf.new ..) pl pu q3;show wpAny (model X.prog X.w) X.A (subscriptTail e (.Slice lo hi none p2) v (.ref s3.heap.objs.size)) (EP X pins σ Q) X.xe { s3 with heap:=s3.heap.push { cls:=.type "slice", data:=.fields #[vl,vu,.none] } };exact tail_any (ops:=[.ref s3.heap.objs.size,v]) ht hT hg (by with_unfolding_all rfl)
def kW (xs:List V) (lo hi:Option Int):List V:=(xs.drop (HT.sIx xs.length 0 lo)).take (HT.sIx xs.length xs.length hi-HT.sIx xs.length 0 lo)
theorem mV (xs:List V) (lo hi:Option Int):(kW xs lo hi).length<=xs.length:=by
 unfold kW;rw[QN,XB];omega
end
def ixN (n:Nat) (i:Int):Option Nat:=if 0<=i then (if i<n then some i.toNat else none) else if -(n:Int)<=i then some (i+n).toNat else none
def atI {α:Type} (xs:List α) (i:Int):Option α:=(ixN xs.length i).bind λj=>xs[j]?
theorem kP {n:Nat} {i:Int} {j:Nat} (h:ixN n i=some j):seqIndex? i n=some j/\j<n/\-(n:Int)<=i/\i<n:=by
 unfold ixN at h;by_cases h0:0<=i
 ·rw[Qs h0]at h;by_cases h1:i<n
  ·rw[Qs h1]at h;have e:i.toNat=j:=QC h;exact⟨by rw[seqIndex_of h0 h1,e],by omega,by omega,h1⟩
  rw[Qn h1]at h;cases h
 rw[Qn h0]at h;by_cases h1:-(n:Int)<=i
 ·rw[Qs h1]at h;have e:(i+n).toNat=j:=QC h;exact⟨by rw[seqIndex_neg (by omega) h1,e],by omega,h1,by omega⟩
 rw[Qn h1]at h;cases h
theorem kZ {α:Type} {xs:List α} {i:Int} {v:α} (h:atI xs i=some v):∃j,seqIndex? i xs.length=some j/\xs[j]?=some v/\j<xs.length/\-(xs.length:Int)<=i/\i<xs.length:=by
 unfold atI at h
 cases e:ixN xs.length i with
 | none=>rw[e]at h;cases h
 | some j =>
 rw[e]at h;obtain⟨h1,h2,h3,h4⟩:=kP e;exact⟨j,h1,h,h2,h3,h4⟩
theorem aY {α:Type} {xs:List α} {j:Nat} {v:α} (h:xs[j]?=some v):atI xs (j:Int)=some v:=by
 have hj:j<xs.length:=(Qc.mp h).1
 have e:ixN xs.length (j:Int)=some j:=by
  unfold ixN;rw[Qs (by omega),Qs (by omega)];simp
 unfold atI;rw[e];exact h
def wC (b:Expr):Prop:=∀o i,subscripted b false o i=operate [o,i] (getItem o i)
def IxR (X:Cx) (r:R2):Prop :=
 ∀(value slice:Expr) (pins:A1) (s:Shared) (σ:St) (H:Hp) (x y:V) (v u:Value) (Q:VK),Inv X pins σ H s->aN x v->aN y u->r x y H Q ->
  subscripted slice false v u=operate [v,u] (getItem v u)->wpAny (model X.prog X.w) X.A (subscriptTail value slice v u) (EP X pins σ Q) X.xe s
def MtR (X:Cx) (id:String) (r:V->List V->Hp->VK->Prop):Prop :=
 ∀(pins:A1) (s:Shared) (σ:St) (H:Hp) (x:V) (xs:List V) (v:Value) (us:List Value) (Q:VK),Inv X pins σ H s->aN x v->aQ xs us->r x xs H Q ->
  wpAny (model X.prog X.w) X.A (call (.builtin id) (v::us)) (EP X pins σ Q) X.xe s
section
variable {X:Cx} {a b:Expr} {ta tb:TE} {pos:Pos}
theorem ao {r:R2} (hr:IxR X r) (ha:PE X a ta) (hb:PE X b tb) (hs:wC b:=by exact λ_ _=>rfl):PE X (.Subscript a b pos) (tOp r ta tb):=by
 intro pins s σ H Q I h;exact Subscript_ (yt ha hb I h λv u s2 x y H2 I2 rx ry q=>hr a b pins s2 σ H2 x y v u Q I2 rx ry q (hs _ _))
def sV (K:PySem.W.Frag):R2:=λx y H Q=>∃p xs i v,x=.ref p/\y=.int i/\SqL K H p xs/\atI xs i=some v/\Q v H
def sT (K:PySem.W.Frag):R2:=λx y H Q=>∃p xs i v,x=.ref p/\y=.int i/\SqT K H p xs/\atI xs i=some v/\Q v H
def yX:R2:=λx y H Q=>∃z i c,x=.str z/\y=.int i/\z.length<=sizeLine/\atI z.cps.toList i=some c/\Q (.str ⟨#[c]⟩) H
theorem aD:IxR X (sV X.K):=by
 intro value slice pins s σ H x y v u Q I rx ry h hs;obtain⟨p,xs,i,z,rfl,rfl,hq,he,q⟩:=h;cases rx;obtain⟨t,rfl⟩:=ry;obtain⟨its,r,pl,hz⟩:=I.list hq;obtain⟨j,h1,h2,h3,h4,h5⟩:=kZ he;obtain⟨w,ew,rw'⟩:=r.get h2;have hl:=r.length;have hn:=ge;have fin:EP X pins σ Q w s:=⟨z,H,I,rw',q⟩;by_cases h0:0<=i
 ·have hj:i.toNat=j:=by
   rw[seqIndex_of h0 h5]at h1;exact QC h1
  exact item_listR pl.isList h0 (by omega) (by rw[hj];simpa using ew) fin hs
 have hj:(i+(its.toArray.size:Int)).toNat=j:=by
  rw[seqIndex_neg (by omega) h4]at h1;rw[Qk,<-hl];exact QC h1
 exact subscriptTail_builtinR (x:=w) pl.isList.typeIs slot_list_getitem.lookup
  (wpAny_getItem_list_neg (Q:=λr s'=>r=w/\EP X pins σ Q r s') pl.isList (by omega) (by rw[Qk] <;> omega) (by omega) (by rw[hj];simpa using ew) ⟨rfl,fin⟩) hs
theorem ax:IxR X (sT X.K):=by
 intro value slice pins s σ H x y v u Q I rx ry h hs;obtain⟨p,xs,i,z,rfl,rfl,hq,he,q⟩:=h;cases rx;obtain⟨t,rfl⟩:=ry;obtain⟨its,r,pl,hz⟩:=I.tuple hq;obtain⟨j,h1,h2,h3,h4,h5⟩:=kZ he;obtain⟨w,ew,rw'⟩:=r.get h2;have hl:=r.length;have hn:=ge;have fin:EP X pins σ Q w s:=⟨z,H,I,rw',q⟩
 exact subscriptTail_builtinR (x:=w) pl.typeIs slot_tuple_getitem.lookup
  (getItem_tuple (j:=j) (Q:=λr s'=>r=w/\EP X pins σ Q r s') pl (by omega) (by omega) (by rw[Qk,<-hl];exact h1) (by simpa using ew) ⟨rfl,fin⟩) hs
theorem dJ:IxR X yX:=by
 intro value slice pins s σ H x y v u Q I rx ry h hs;obtain⟨z,i,c,rfl,rfl,hz,he,q⟩:=h;obtain⟨t,rfl⟩:=rx;obtain⟨t',rfl⟩:=ry;obtain⟨j,h1,h2,h3,h4,h5⟩:=kZ he;have hl:z.cps.toList.length=z.length:=by simp[Str.length]
 rw[hl]at h1 h4 h5;have hn:=ge
 exact tail_any (typeIs_str s z t) slot_str_getitem.lookup (getItem_str (c:=c) (by
  have e1:decide (i < -(2 ^ 63:Int))=false:=Qw (by omega);have e2:decide (i>=2 ^ 63)=false:=Qw (by omega)
  rw[e1,e2,Bool.or_false]) (by rw[h1];simpa using h2) ⟨.str ⟨#[c]⟩,H,I.tok _,⟨_,rfl⟩,q⟩) hs
theorem n_ (its:List Value) (n j:Nat) (u:Value):Obj.mapSeq (·.setIfInBounds j u) { cls:=.type "list", data:=.seq its.toArray n }={ cls:=.type "list", data:=.seq (its.set j u).toArray n }:=by
 simp[Obj.mapSeq]
variable {s:Shared} {pins:A1}
theorem Inv.lst {σ:St} {H:Hp} {p:Addr} {xs:List V} (I:Inv X pins σ H s) (h:H p=some (.lst xs)) :
  ∃(its:List Value) (n:Nat),aQ xs its/\s.heap.get? p=some { cls:=.type "list", data:=.seq its.toArray n }/\xs.length<=sizeLine:=by
 obtain⟨z,its,n,r,e⟩:=I.hok p _ h;exact⟨its,n,r,e,z⟩
theorem Inv.lstUpd {σ:St} {H:Hp} {p:Addr} {xs ys:List V} {its its':List Value} {n n':Nat} {f:Obj->Obj} (I:Inv X pins σ H s) (h:H p=some (.lst xs))
  (ho:s.heap.get? p=some { cls:=.type "list", data:=.seq its.toArray n }) (hf:f { cls:=.type "list", data:=.seq its.toArray n }={ cls:=.type "list", data:=.seq its'.toArray n' }) (r:aQ ys its') (hz:ys.length<=sizeLine) (t:Nat) :
  Inv X pins σ (upd H p (.lst ys)) { s with heap:=s.heap.update p f,toks:=t }:=by
 have e:(s.heap.update p f).get? p=some { cls:=.type "list", data:=.seq its'.toArray n' }:=by
  rw[Xg f ho (by rw[hf] <;> rfl),hf]
 refine I.write (x:=p) (e:=p) (by rw[h];trivial) (.inl rfl) (λb u hb q=>(Xj _ _ (Ne.symm hb)).trans q) ⟨_,e⟩ ?_;exact⟨hz,its',n',r,e⟩
def wS:V->V->V->Hp->(Hp->Prop)->Prop:=λo i v H Q=>∃p xs k j,o=.ref p/\i=.int k/\H p=some (.lst xs)/\ixN xs.length k=some j/\Q (upd H p (.lst (xs.set j v)))
theorem lJ:zW X wS:=by
 intro pins s σ H o i v ov iv u Q I ro ri rv h;obtain⟨p,xs,k,j,rfl,rfl,hp,hj,q⟩:=h;cases ro;obtain⟨t,rfl⟩:=ri;obtain⟨its,n,r,ho,hz⟩:=I.lst hp;obtain⟨h1,h2,h3,h4⟩:=kP hj;have hl:=r.length;have hn:=ge
 have I':Inv X pins σ (upd H p (.lst (xs.set j v))) { s with heap:=s.heap.update p (Obj.mapSeq (·.setIfInBounds j u)) } :=
  I.lstUpd hp ho (n_ its n j u) (r.set rv j) (by rw[List.length_set];exact hz) s.toks
 by_cases h0:0<=k
 ·have hk:k.toNat=j:=by
   rw[seqIndex_of h0 h4]at h1;exact QC h1
  exact PySem.W.ki_setAt ho h0 (by omega) (by rw[Qk,<-hl];exact h4) (by rw[hk];exact⟨_,I',q⟩)
 have hk:(k+(its.toArray.size:Int)).toNat=j:=by
  rw[seqIndex_neg (by omega) h3]at h1;rw[Qk,<-hl];exact QC h1
 exact PySem.W.ki_setBack ho (by omega) (by rw[Qk,<-hl];exact h3) (by omega) (by rw[hk];exact⟨_,I',q⟩)
theorem wO (i:Int) (n:Nat):max 0 (min (if i<0 then i+(n:Int) else i) (n:Int))=(((if i<0 then (i+(n:Int)).toNat else min i.toNat n):Nat):Int):=by
 by_cases h:i<0
 ·rw[Qs h,Qs h,Int.min_eq_left (by omega)];omega
 obtain⟨k,rfl⟩:=Int.eq_ofNat_of_zero_le (Int.not_lt.mp h);rw[Qn h,Qn h,Q2];omega
theorem j_ (lo hi:Option Int) (n:Nat):(sliceBounds lo hi none n).1=((HT.sIx n 0 lo:Nat):Int)/\(sliceBounds lo hi none n).2.1=((HT.sIx n n hi:Nat):Int)/\(sliceBounds lo hi none n).2.2=1:=by
 refine⟨?_,?_,rfl⟩
 ·cases lo with
  | none=>simp[sliceBounds,HT.sIx]
  | some i =>
   simp only[sliceBounds,HT.sIx,Option.getD_none,show (1:Int)>0 by decide,if_true];exact wO i n
 cases hi with
 | none=>simp[sliceBounds,HT.sIx]
 | some i =>
 simp only[sliceBounds,HT.sIx,Option.getD_none,show (1:Int)>0 by decide,if_true];exact wO i n
theorem iZ (its:List Value) (lo hi:Option Int):slicePick its.toArray lo hi none=((its.drop (HT.sIx its.length 0 lo)).take (HT.sIx its.length its.length hi-HT.sIx its.length 0 lo)).toArray:=by
 obtain⟨h1,h2,h3⟩:=j_ lo hi its.toArray.size;unfold slicePick;rw[h1,h2,h3];simp only[sliceRange_one,pick_run,Qk] <;> rfl
def yU (K:PySem.W.Frag):V->Option Int->Option Int->Hp->VK->Prop:=λx lo hi H Q=>∃a xs,x=.ref a/\SqL K H a xs/\∀p,H p=none->Q (.ref p) (upd H p (.lst (kW xs lo hi)))
theorem gE:SlR X (yU X.K):=by
 intro pins s σ H x v vl vu lo hi sl Q I rx hs pl pu h;obtain⟨a,xs,rfl,hx,q⟩:=h;cases rx;obtain⟨its,r,ht,hz⟩:=I.list hx;have hlen:=r.length;refine⟨"list", _,slot_list_getitem.lookup,ht.isList.typeIs,?_⟩;refine wpAny_getItem_list_slice ht.isList hs pl pu .none (by simp) ?_ (by rw[Qk] <;> omega);rw[iZ,<-hlen];refine⟨.ref s.heap.objs.size,_,I.laid (t':=s.toks) (o:=.lst (kW xs lo hi)) (λb ob q=>Qe _ q) (Qg _) ?_,rfl,q _ (I.hok.fresh (Qg _))⟩;exact⟨QQ (mV xs lo hi) hz,_,0,(r.drop (HT.sIx xs.length 0 lo)).take (HT.sIx xs.length xs.length hi-HT.sIx xs.length 0 lo),Qy _ rfl⟩
def cr:V->Bool
 | .non=>true
 | .bl _=>true
 | .int _=>true
 | .str _=>true
 | _=>false
def eqV:V->V->Bool
 | .non,.non=>true
 | .bl a,.bl b=>a==b
 | .bl a,.int b=>(if a then 1 else 0)==b
 | .int a,.bl b=>a==(if b then 1 else 0)
 | .int a,.int b=>a==b
 | .str a,.str b=>a==b
 | _,_=>false
variable {u v:Value}
theorem uF {A:Around} {y x:V} (ry:aN y u) (rx:aN x v) (fy:cr y=true) (fx:cr x=true):SeqAt.EqAt A s u v (eqV y x):=by
 cases y with
 | non =>
  cases ry
  cases x with
  | non=>cases rx;exact SeqAt.EqAt.same _
  | bl b=>cases rx;exact SeqAt.EqAt.none_bool b
  | int b=>obtain⟨t,rfl⟩:=rx;exact SeqAt.EqAt.none_int b t
  | str b=>obtain⟨t,rfl⟩:=rx;exact SeqAt.EqAt.none_str b t
  | _=>exact absurd (show false=true from fx) Qr
 | bl a =>
  cases ry
  cases x with
  | non=>cases rx;exact SeqAt.EqAt.bool_none a
  | bl b=>cases rx;exact SeqAt.EqAt.bool_bool a b
  | int b=>obtain⟨t,rfl⟩:=rx;exact SeqAt.EqAt.bool_int a b t
  | str b=>obtain⟨t,rfl⟩:=rx;exact SeqAt.EqAt.bool_str a b t
  | _=>exact absurd (show false=true from fx) Qr
 | int a =>
  obtain⟨t',rfl⟩:=ry
  cases x with
  | non=>cases rx;exact SeqAt.EqAt.int_none a t'
  | bl b=>cases rx;exact SeqAt.EqAt.int_bool a t' b
  | int b=>obtain⟨t,rfl⟩:=rx;exact SeqAt.EqAt.int_int a t' b t
  | str b=>obtain⟨t,rfl⟩:=rx;exact SeqAt.EqAt.int_str a t' b t
  | _=>exact absurd (show false=true from fx) Qr
 | str a =>
  obtain⟨t',rfl⟩:=ry
  cases x with
  | non=>cases rx;exact SeqAt.EqAt.str_none a t'
  | bl b=>cases rx;exact SeqAt.EqAt.str_bool a t' b
  | int b=>obtain⟨t,rfl⟩:=rx;exact SeqAt.EqAt.str_int a t' b t
  | str b=>obtain⟨t,rfl⟩:=rx;exact SeqAt.EqAt.str_str a t' b t
  | _=>exact absurd (show false=true from fx) Qr
 | _=>exact absurd (show false=true from fy) Qr
def eqU (x:V) (u:Value):Bool:=match u with
 | .none=>eqV .non x
 | .bool b=>eqV (.bl b) x
 | .int i _=>eqV (.int i) x
 | .str z _=>eqV (.str z) x
 | _=>false
theorem uE {x y:V} (r:aN y u) (f:cr y=true):eqU x u=eqV y x:=by
 cases y with
 | non=>cases r;rfl
 | bl b=>cases r;rfl
 | int i=>obtain⟨t,rfl⟩:=r;rfl
 | str z=>obtain⟨t,rfl⟩:=r;rfl
 | _=>exact absurd (show false=true from f) Qr
theorem k_ {x:V}:∀{xs:List V} {us:List Value},aQ xs us->xs.all cr=true->us.any (eqU x)=xs.any λy=>eqV y x
 | _,_,.nil,_=>rfl
 | y::xs,u::us,.cons r t,f=>by
  rw[List.all_cons,Xr]at f;rw[List.any_cons,List.any_cons,uE r f.1,k_ t f.2]
theorem iy {A:Around} {s:Shared} {x:V} {v:Value} (rx:aN x v) (fx:cr x=true):∀{xs:List V} {us:List Value},aQ xs us->xs.all cr=true->∀u∈us,SeqAt.EqAt A s u v (eqU x u)
 | _,_,.nil,_=>λu hu=>by cases hu
 | y::xs,u::us,.cons r t,f=>λu' hu=>by
  rw[List.all_cons,Xr]at f;rcases Qj.mp hu with rfl|hu
  ·rw[uE r f.1];exact uF r rx f.1 fx
  exact iy rx fx t f.2 u' hu
def inV (x:V) (xs:List V):Bool:=xs.any λy=>eqV y x
def rIn (K:PySem.W.Frag) (neg:Bool):R2:=λx y H Q=>∃p xs,y=.ref p/\(SqL K H p xs\/SqT K H p xs)/\cr x=true/\xs.all cr=true/\Q (.bl (if neg then !inV x xs else inV x xs)) H
theorem ga:OpR X (compareOp .In) (rIn X.K false):=by
 intro pins s σ H x y v u Q I rx ry h;obtain⟨p,xs,rfl,hq,fx,fs,q⟩:=h;cases ry;rcases hq with hq|hq
 ·obtain⟨its,r,pl,hz⟩:=I.list hq;refine SeqAt.in_listAt (eqU x) pl.isList (λw hw=>iy rx fx r fs w (by simpa using hw)) ⟨.bl _,H,I,rfl,?_⟩;rw[show its.toArray.any (eqU x)=its.any (eqU x) by simp,k_ r fs];exact q
 obtain⟨its,r,pl,hz⟩:=I.tuple hq;refine SeqAt.in_tupleAt (eqU x) pl (λw hw=>iy rx fx r fs w (by simpa using hw)) ⟨.bl _,H,I,rfl,?_⟩;rw[show its.toArray.any (eqU x)=its.any (eqU x) by simp,k_ r fs];exact q
theorem az:dR X (.builtin "len") (λxs H Q=>∃p ys,xs=[.ref p]/\(SqL X.K H p ys\/SqT X.K H p ys)/\Q (.int ys.length) H):=by
 intro pins s σ H xs us Q I r h;obtain⟨p,ys,rfl,hq,q⟩:=h;obtain⟨u,rfl,rx⟩:=dh r;cases rx;have hn:=ge;rcases hq with hq|hq
 ·obtain⟨its,r',pl,hz⟩:=I.list hq;have hlen:=r'.length;exact Calls.call_len_list pl.isList (by simp only[Qk] <;> omega) ⟨.int ys.length,H,I.tok _,⟨s.toks+1,by rw[Qk,hlen]⟩,q⟩
 obtain⟨its,r',pl,hz⟩:=I.tuple hq;have hlen:=r'.length;exact len_tuple pl (by simp only[Qk] <;> omega) ⟨.int ys.length,H,I.tok _,⟨s.toks+1,by rw[Qk,hlen]⟩,q⟩
theorem kX:dR X (.builtin "len") (λxs H Q=>∃z,xs=[.str z]/\z.length<=sizeLine/\Q (.int z.length) H):=by
 intro pins s σ H xs us Q I r h;obtain⟨z,rfl,hz,q⟩:=h;obtain⟨u,rfl,t,rfl⟩:=dh r;have hn:=ge;exact len_str (by omega) ⟨.int z.length,H,I.tok _,⟨_,rfl⟩,q⟩
theorem dL:dR X (.type "list") (λxs H Q=>∃p ys,xs=[.ref p]/\(SqL X.K H p ys\/SqT X.K H p ys)/\∀l,H l=none->Q (.ref l) (upd H l (.lst ys))):=by
 intro pins s σ H xs us Q I r h;obtain⟨p,ys,rfl,hq,q⟩:=h;obtain⟨u,rfl,rx⟩:=dh r;cases rx
 have fin:∀(its:List Value),aQ ys its->ys.length<=sizeLine->∀(h':Heap) (c':Nat),(∀b o',s.heap.get? b=some o'->h'.get? b=some o') ->
   h'.get? s.heap.objs.size=some { cls:=.type "list", dict:=none,data:=.seq its.toArray c',slots:=#[] }->EP X pins σ Q (.ref s.heap.objs.size) { s with heap:=h' }:=λits r' hz h' c' kp e =>
  ⟨.ref s.heap.objs.size,_,I.laid (t':=s.toks) kp (Qg _) (show bp X.prog X.w _ h' _ (.lst ys) from⟨hz,its,c',r',e⟩),rfl,q _ (I.hok.fresh (Qg _))⟩
 rcases hq with hq|hq
 ·obtain⟨its,r',pl,hz⟩:=I.list hq;have hlen:=r'.length;obtain⟨o,ho,hc,n,hd⟩:=pl.isList;exact call_list_seq p (.inl rfl) ho hc hd (λh' c' kp e=>fin its r' hz h' c' kp e) (by simp only[Qk] <;> omega)
 obtain⟨its,r',pl,hz⟩:=I.tuple hq;have hlen:=r'.length;obtain⟨o,ho,hc,n,hd⟩:=pl;exact call_list_seq p (.inr rfl) ho hc hd (λh' c' kp e=>fin its r' hz h' c' kp e) (by simp only[Qk] <;> omega)
theorem eW:dR X (.type "tuple") (λxs H Q=>∃p ys,xs=[.ref p]/\((SqL X.K H p ys/\∀l,H l=none->Q (.ref l) (upd H l (.tup ys)))\/(SqT X.K H p ys/\Q (.ref p) H))):=by
 intro pins s σ H xs us Q I r h;obtain⟨p,ys,rfl,h⟩:=h;obtain⟨u,rfl,rx⟩:=dh r;cases rx;rcases h with⟨hq,q⟩|⟨hq,q⟩
 ·obtain⟨its,r',pl,hz⟩:=I.list hq;have hlen:=r'.length;refine call_tuple_list pl.isList (λh' kp=>?_) (by simp only[Qk] <;> omega);have I1:Inv X pins σ H { s with heap:=h' }:=I.kept (t':=s.toks) kp
  have I2:Inv X pins σ (upd H h'.objs.size (.tup ys)) { s with heap:=h'.push { cls:=.type "tuple", data:=.seq its.toArray } } :=
   I1.laid (t':=s.toks) (λb o e=>Qe _ e) (Qg _) (show bp X.prog X.w _ _ _ (.tup ys) from⟨hz,its,r',IsTup.new _ _⟩)
  exact⟨.ref h'.objs.size,_,I2,rfl,q _ (I1.hok.fresh (Qg _))⟩
 obtain⟨its,r',pl,hz⟩:=I.tuple hq;exact call_tuple_same pl ⟨.ref p,H,I,rfl,q⟩
def tyV (K:PySem.W.Frag) (T:String) (x:V) (H:Hp):Prop:=match x with
 | .str _=>T = "str"
 | .int _=>T = "int"
 | .ref p=>(T = "list" /\ ∃xs,SqL K H p xs)\/(T = "tuple" /\ ∃o,K.lookup p=some o/\o.cls=.type "tuple" /\ o.dict=none) \/
   (T = "dict" /\ ((∃kvs,H p=some (.dK kvs))\/∃kvs,H p=some (.dT kvs)))\/(T = "set" /\ ∃S n,H p=some (.set S n))
 | _=>False
theorem xn {σ:St} {H:Hp} {T:String} {x:V} (I:Inv X pins σ H s) (r:aN x v) (ty:tyV X.K T x H) :
  s.TypeIs v T/\∀a,v=.ref a->∃ob,s.heap.get? a=some ob/\ob.dict=none:=by
 cases x with
 | str z =>
  obtain⟨t,rfl⟩:=r;cases (show T = "str" from ty);exact⟨typeIs_str s z t,λ_ e=>nomatch e⟩
 | int i =>
  obtain⟨t,rfl⟩:=r;cases (show T = "int" from ty);exact⟨typeIs_int s i t,λ_ e=>nomatch e⟩
 | ref p =>
  cases r;rcases ty with⟨rfl,xs,hq⟩|⟨rfl,o,hk,hc,hd⟩|⟨rfl,hk⟩|⟨rfl,S,n,hk⟩
  ·obtain⟨its,_,pl,_⟩:=I.list hq;refine⟨pl.isList.typeIs,λa e=>?_⟩;cases e;obtain⟨o,n,e,c,hd,_⟩:=pl;exact⟨o,e,hd⟩
  ·refine⟨⟨o,I.kIn p o hk,hc⟩,λa e=>?_⟩;cases e;exact⟨o,I.kIn _ o hk,hd⟩
  ·have z:∃o,s.heap.get? p=some o/\o.ExactDict:=by
    rcases hk with⟨kvs,hk⟩|⟨kvs,hk⟩
    ·obtain⟨_,_,_,_,o,_,_,e,ex,_⟩:=I.hok p _ hk;exact⟨o,e,ex⟩
    obtain⟨_,_,_,_,o,_,_,e,ex,_⟩:=I.hok p _ hk;exact⟨o,e,ex⟩
   obtain⟨o,e,ex⟩:=z;refine⟨⟨o,e,ex.1⟩,λa e2=>?_⟩;cases e2;exact⟨o,e,ex.2.1⟩
  obtain⟨o,_,_,_,e,ex,_⟩:=I.hok p _ hk;refine⟨⟨o,e,ex.1⟩,λa e2=>?_⟩;cases e2;exact⟨o,e,ex.2.1⟩
 | _=>exact False.elim ty
def tBM (K:PySem.W.Frag) (T:String) (r:V->List V->Hp->VK->Prop) (to:TE) (t:TA):TE:=λσ H Q=>to σ H λx H1=>tyV K T x H1/\t σ H1 λxs H2=>r x xs H2 Q
variable {o e:Expr} {es:List Expr} {to:TE} {t:TA} {name:Str} {apos cpos:Pos} {T id:String} {r:V->List V->Hp->VK->Prop}
theorem bE (pa:PlainAttrs T) (slot:Slot T name id) (hty:typeOf (.builtin id)=pure (.type "method_descriptor")) (hm:MtR X id r) (ho:PE X o to) (ha:PA X (e::es) t)
  (hbase:attributeBase o name X.env (eval o X.env)=eval o X.env:=by rfl)
  (hfew:((backTo cpos (starEach (e::es) X.env)).all (fun x=>!x.1)&&(backToKw cpos (keywordEach [] X.env)).all (fun x=>x.1.isSome)
   && decide ((e::es).length+([]:List Keyword).length+(if ([]:List Keyword).isEmpty then 0 else 1)<30))=true:=by rfl)
  (hline:(apos.endLine==cpos.line)=true:=by rfl) (hs:starEach (e::es) X.env=(false,eval e X.env)::starEach es X.env:=by rfl) (hplain:(backTo cpos (starEach es X.env)).any (·.1)=false:=by rfl) :
  PE X (.Call (.Attribute o name apos) (e::es) [] cpos) (tBM X.K T r to t):=by
 intro pins s σ H Q I h;refine wpAny_Call_method_late hbase hfew hline rfl (thn (ho pins s σ H _ I h) λv s1 ⟨x,H1,I1,r1,ty,q1⟩=>?_);obtain⟨h1,h2⟩:=xn I1 r1 ty;refine⟨T,id,pa,slot,hty,h1,h2,?_⟩;have hA:=ha cpos pins s1 σ H1 _ I1 q1;rw[hs]at hA ⊢;refine Calls.callWith_builtin (by show (false || (backTo cpos (starEach es X.env)).any (·.1))=false;rw[hplain] <;> rfl) (Calls.evalArgs_plain ?_);exact thn hA λus s2 ⟨vs,H2,I2,r2,q2⟩=>hm pins s2 σ H2 x vs v us Q I2 r1 r2 q2
end
def MtM (X:Cx) (id:String) (r:V->List V->Hp->VK->Prop):Prop :=
 ∀(pins:A1) (s:Shared) (σ:St) (H:Hp) (x:V) (xs:List V) (v:Value) (us:List Value) (Q:VK),Inv X pins σ H s->aN x v->aQ xs us->r x xs H Q ->
  wpAny (model X.prog X.w) X.A (call (.builtin id) (v::us)) (EP X pins σ Q) X.xe s
theorem aQ.one:∀{x:V} {us:List Value},aQ [x] us->∃u,us=[u]/\aN x u
 | _,_,.cons r .nil=>⟨_,rfl,r⟩
theorem aQ.two:∀{x y:V} {us:List Value},aQ [x,y] us->∃u v,us=[u,v]/\aN x u/\aN y v
 | _,_,_,.cons r (.cons q .nil)=>⟨_,_,rfl,r,q⟩
theorem aQ.eraseIdx:∀{xs:List V} {us:List Value} (i:Nat),aQ xs us->aQ (xs.eraseIdx i) (us.eraseIdx i)
 | _,_,_,.nil=>.nil
 | _,_,0,.cons _ t=>t
 | _,_,i+1,.cons r t=>.cons r (aQ.eraseIdx i t)
theorem jE {α:Type}:∀(l:List α) (i:Nat),(l.eraseIdx i).length<=l.length
 | [],_=>Qg _
 | _::_,0=>Nat.le_succ _
 | _::r,i+1=>Nat.succ_le_succ (jE r i)
section
variable {X:Cx} {pins:A1} {σ:St} {H:Hp} {s:Shared} {l b:Addr} {xs ys zs:List V}
theorem Inv.lset {its its':List Value} {n:Nat} {f:Array Value->Array Value} {t':Nat} (I:Inv X pins σ H s) (hH:H l=some (.lst xs))
  (e:s.heap.get? l=some { cls:=.type "list", data:=.seq its.toArray n }) (hf:f its.toArray=its'.toArray) (hv:aQ ys its') (hz:ys.length<=sizeLine) :
  Inv X pins σ (upd H l (.lst ys)) { s with heap:=s.heap.update l (Obj.mapSeq f),toks:=t' }:=by
 have q:=PySem.IsL.update e f;rw[hf]at q;refine I.write (x:=l) (e:=l) (by rw[hH];exact trivial) (.inl rfl) (λb' u hb hu=>(Xj s.heap (Obj.mapSeq f) (Ne.symm hb)).trans hu) ⟨_,q⟩ ?_;exact⟨hz,its',_,hv,q⟩
theorem Inv.lnew {its:List Value} {t':Nat} (I:Inv X pins σ H s) (hv:aQ ys its) (hz:ys.length<=sizeLine) :
  Inv X pins σ (upd H s.heap.objs.size (.lst ys)) { s with heap:=s.heap.push { cls:=.type "list", data:=.seq its.toArray },toks:=t' } :=
 I.laid (λ_ _ q=>Qe _ q) (Qg _) ⟨hz,its,0,hv,Qy _ rfl⟩
theorem Inv.fresh (I:Inv X pins σ H s):H s.heap.objs.size=none:=I.hok.fresh (Qg _)
theorem Inv.lstM (I:Inv X pins σ H s) (hH:H l=some (.lst xs)):xs.length<=sizeLine/\∃(its:List Value) (n:Nat),aQ xs its/\xs.length=its.length/\s.heap.get? l=some { cls:=.type "list", data:=.seq its.toArray n }:=by
 obtain⟨z,its,n,r,e⟩:=I.hok l _ hH;exact⟨z,its,n,r,r.length,e⟩
end
section
variable {X:Cx}
def pH:V->List V->Hp->VK->Prop:=λx vs H Q=>∃l xs y,x=.ref l/\vs=[y]/\H l=some (.lst xs)/\xs.length<sizeLine/\Q .non (upd H l (.lst (xs++[y])))
theorem bn:MtM X "list.append" pH:=by
 intro pins s σ H x vs v us Q I rx rv h;obtain⟨l,xs,y,rfl,rfl,hH,hz,q⟩:=h;cases rx;obtain⟨u,rfl,ru⟩:=rv.one;obtain⟨z,its,n,r,hl,e⟩:=I.lstM hH;refine call_meets F.slot_list_append ⟨_,e,rfl⟩ F.entry_list_append (F.args_list_append_2 _ _) (PySem.list_append l its.toArray n u (by rw[Qk];omega)) ⟨e,?_⟩;refine⟨.non,_,I.lset (its':=its++[u]) hH e (by simp) (r.append (.cons ru .nil)) ?_,rfl,q⟩;rw[Qi,QK];omega
def xE:V->List V->Hp->VK->Prop:=λx vs H Q=>∃l xs i k y,x=.ref l/\vs=[.int i]/\H l=some (.lst xs)/\-(2 ^ 63)<=i/\i<2 ^ 63/\seqIndex? i xs.length=some k/\xs[k]?=some y/\Q y (upd H l (.lst (xs.eraseIdx k)))
theorem tZ:MtM X "list.pop" xE:=by
 intro pins s σ H x vs v us Q I rx rv h;obtain⟨l,xs,i,k,y,rfl,rfl,hH,h1,h2,hk,hy,q⟩:=h;cases rx;obtain⟨u,rfl,ru⟩:=rv.one;obtain⟨t,rfl⟩:=ru;obtain⟨z,its,n,r,hl,e⟩:=I.lstM hH;obtain⟨w,hw,rw'⟩:=r.get hy
 refine call_meets F.slot_list_pop ⟨_,e,rfl⟩ F.entry_list_pop (F.args_list_pop_2 _ _)
  (MeetsSeq.list_pop_at l its.toArray n i t k w (fitsIndex_both h1 h2) (by rw[Qk,<-hl];exact hk) (by rw[<-Q7];exact hw) (by rw[Qk];omega)) ⟨e,?_⟩
 refine⟨y,_,I.lset (its':=its.eraseIdx k) hH e ?_ (r.eraseIdx k) ?_,rw',q⟩
 ·show its.toArray.eraseIdxIfInBounds k=(its.eraseIdx k).toArray;rw[List.eraseIdxIfInBounds_toArray]
 have:=jE xs k;omega
def xH:R2:=λx y H Q=>∃l b xs zs,x=.ref l/\y=.ref b/\H l=some (.lst xs)/\H b=some (.lst zs)/\xs.length+zs.length<=sizeLine/\∀p,H p=none->Q (.ref p) (upd H p (.lst (xs++zs)))
theorem fj:OpR X (binaryOp .Add) xH:=by
 intro pins s σ H x y v u Q I rx ry h;obtain⟨l,b,xs,zs,rfl,rfl,hH,hB,hz,q⟩:=h;cases rx;cases ry;obtain⟨z,its,n,r,hl,e⟩:=I.lstM hH;obtain⟨z2,its2,n2,r2,hl2,e2⟩:=I.lstM hB;refine PySem.P.add_list e e2 ?_ (by rw[Qk,Qk];omega);have ea:its.toArray++its2.toArray=(its++its2).toArray:=by simp
 rw[ea];exact⟨.ref _,_,I.lnew (t':=s.toks) (r.append r2) (by rw[Qi];omega),rfl,q _ I.fresh⟩
end
section
variable {prog:Program} {w:World} {A:Around} {E:A0} {s:Shared}
end
section
variable {X:Cx}
end
section
variable {κ:Type} [DecidableEq κ]
def aV (kvs:List (κ × V)) (k:κ):Option V:=(kvs.find? λkv=>decide (kv.1=k)).map (·.2)
def bq (kvs:List (κ × V)) (k:κ) (v:V):List (κ × V) :=
 if (kvs.any λkv=>decide (kv.1=k))=true then kvs.map (λkv=>if kv.1=k then (kv.1,v) else kv) else kvs++[(k,v)]
variable {r kvs:List (κ × V)}
theorem bv {p:κ × V} {k:κ} (e:p.1=k):aV (p::r) k=some p.2:=by simp[aV,List.find?_cons,e]
theorem bx {p:κ × V} {k:κ} (e:¬p.1=k):aV (p::r) k=aV r k:=by simp[aV,List.find?_cons,e]
theorem cM (k:κ):∀kvs:List (κ × V),(kvs.any λkv=>decide (kv.1=k))=(aV kvs k).isSome
 | []=>rfl
 | p::r=>by
  rw[List.any_cons];by_cases e:p.1=k
  ·simp only[bv e,Qu e,Bool.true_or,Option.isSome_some]
  rw[bx e,Qw e,Bool.false_or];exact cM k r
theorem lE (k j:κ) (y:V):∀kvs:List (κ × V),aV (kvs.map λkv=>if kv.1=k then (kv.1,y) else kv) j=(aV kvs j).map λx=>if j=k then y else x
 | []=>rfl
 | p::r=>by
  have ih:=lE k j y r;rw[Qx];by_cases h:p.1=k
  ·rw[Qs h];by_cases e:p.1=j
   ·rw[bv (p:=(p.1,y)) e,bv e,Option.map_some,Qs (e.symm.trans h)]
   rw[bx (p:=(p.1,y)) e,bx e,ih]
  rw[Qn h];by_cases e:p.1=j
  ·rw[bv (p:=p) e,bv e,Option.map_some,Qn (λz=>h (e.trans z))]
  rw[bx (p:=p) e,bx e,ih]
theorem jd (k j:κ) (y:V):∀kvs:List (κ × V),aV kvs k=none->aV (kvs++[(k,y)]) j=if j=k then some y else aV kvs j
 | [],_=>by
  by_cases e:k=j
  ·rw[Qs e.symm];exact bv (p:=(k,y)) e
  rw[Qn (λz=>e z.symm)];exact bx (p:=(k,y)) e
 | p::r,hn=>by
  rw[List.cons_append];have hk:¬p.1=k:=λz=>by rw[bv z]at hn;cases hn
  rw[bx hk]at hn;have ih:=jd k j y r hn;by_cases e:p.1=j
  ·rw[bv e,bv e,Qn (λz=>hk (e.trans z))]
  rw[bx e,bx e,ih]
theorem cX (kvs:List (κ × V)) (k j:κ) (y:V):aV (bq kvs k y) j=if j=k then some y else aV kvs j:=by
 unfold bq;by_cases a:(kvs.any λkv=>decide (kv.1=k))=true
 ·rw[Qs a,lE];rw[cM]at a;by_cases e:j=k
  ·obtain⟨x,hx⟩:=Option.isSome_iff_exists.mp a;rw[Qs e,e,hx,Option.map_some,Qs rfl]
  rw[Qn e]
  cases aV kvs j with
  | none=>rfl
  | some x=>rw[Option.map_some,Qn e]
 rw[Qn a];refine jd k j y kvs ?_;rw[cM]at a
 cases q:aV kvs k with
 | none=>rfl
 | some x=>rw[q]at a;exact(a rfl).elim
theorem bQ (kvs:List (κ × V)) (k:κ) (v:V):(bq kvs k v).length<=kvs.length+1:=by
 unfold bq
 split
 ·rw[Qd];omega
 rw[Qi,Xm,List.length_nil];omega
theorem dY {k:κ} (v:V) (h:aV kvs k=none):bq kvs k v=kvs++[(k,v)]:=by
 unfold bq;rw[cM,h];exact Qn (by decide)
theorem fW.isSome_eq {o:Option V} {u:Option Value} (r:fW o u):o.isSome=u.isSome:=by
 cases o with
 | none=>cases u with
  | none=>rfl
  | some _=>exact(show False from r).elim
 | some _=>cases u with
  | none=>exact(show False from r).elim
  | some _=>rfl
theorem fW.getD {o:Option V} {u:Option Value} {d:V} {d':Value} (r:fW o u) (rd:aN d d'):aN (o.getD d) (u.getD d'):=by
 cases o with
 | none=>cases u with
  | none=>exact rd
  | some _=>exact(show False from r).elim
 | some _=>cases u with
  | none=>exact(show False from r).elim
  | some _=>exact r
variable {vs:List (κ × Value)}
theorem KV.val (r:KV kvs vs) (k:κ):fW (aV kvs k) (valueAt vs k):=by
 unfold KV at r
 induction r with
 | nil=>exact True.intro
 | @cons p q ps qs h t ih =>
 obtain⟨h1,h2⟩:=h;by_cases e:p.1=k
 ·have e':q.1=k:=h1.symm.trans e;have b:valueAt (q::qs) k=some q.2:=by simp[valueAt,List.find?_cons,e']
  rw[bv e,b];exact h2
 have e':¬q.1=k:=λz=>e (h1.trans z);have b:valueAt (q::qs) k=valueAt qs k:=by simp[valueAt,List.find?_cons,e']
 rw[bx e,b];exact ih
theorem KV.any (r:KV kvs vs) (k:κ):(kvs.any λkv=>decide (kv.1=k))=vs.any λkv=>decide (kv.1=k):=by
 unfold KV at r
 induction r with
 | nil=>rfl
 | cons h t ih=>rw[List.any_cons,List.any_cons,ih,h.1]
theorem KV.repl (r:KV kvs vs) (k:κ) {y:V} {u:Value} (ry:aN y u) :
  KV (kvs.map λkv=>if kv.1=k then (kv.1,y) else kv) (vs.map λkv=>if kv.1=k then (kv.1,u) else kv):=by
 unfold KV at r ⊢
 induction r with
 | nil=>exact .nil
 | @cons p q ps qs h t ih =>
 rw[Qx,Qx];refine .cons ?_ ih;obtain⟨h1,h2⟩:=h;by_cases e:p.1=k
 ·rw[Qs e,Qs (h1.symm.trans e)];exact⟨h1,ry⟩
 rw[Qn e,Qn (λz=>e (h1.trans z))];exact⟨h1,h2⟩
theorem KV.put (r:KV kvs vs) (k:κ) {y:V} {u:Value} (ry:aN y u):KV (bq kvs k y) (stored vs k u):=by
 unfold bq stored;rw[r.any k];by_cases e:(vs.any λkv=>decide (kv.1=k))=true
 ·rw[Qs e,Qs e];exact r.repl k ry
 rw[Qn e,Qn e];exact Paired.snoc r ⟨rfl,ry⟩
theorem KV.length (r:KV kvs vs):kvs.length=vs.length:=Xk r
end
variable {u:Value}
theorem fQ {P:Program} {w:World} {k:Key} (r:aN (kV k) u):(au P w).is k u=true:=by
 cases k with
 | inl i=>obtain⟨t,e⟩:=(show ∃t,u=Value.int i t from r);subst e;exact mw P w i t
 | inr x=>obtain⟨t,e⟩:=(show ∃t,u=Value.str x t from r);subst e;exact gs P w x t
theorem uh {a b:Key} (e:kV a=kV b):a=b:=by
 cases a with
 | inl i=>cases b with
  | inl j=>have e':V.int i=V.int j:=e;injection e' with e';rw[e']
  | inr y=>exact nomatch (show V.int i=V.str y from e)
 | inr x=>cases b with
  | inl j=>exact nomatch (show V.str x=V.int j from e)
  | inr y=>have e':V.str x=V.str y:=e;injection e' with e';rw[e']
theorem kO:∀{a b:List Key},a.map kV=b.map kV->a=b
 | [],[],_=>rfl
 | [],_::_,e=>by simp at e
 | _::_,[],e=>by simp at e
 | x::xs,y::ys,e=>by
  rw[Qx,Qx]at e;injection e with e1 e2;rw[uh e1,kO e2]
theorem jH {P:Program} {w:World}:∀{ks:List Key} {us:List Value},aQ (ks.map kV) us->ItemsAre (au P w) ks us
 | [],_,r=>by rw[List.map_nil]at r;cases r;exact .nil
 | k::ks,_,r=>by
  rw[Qx]at r
  cases r with
  | cons h t=>exact .cons (fQ h) (jH t)
abbrev KT (H:Hp):List (av × V)->List (av × Addr × Value)->Prop:=Paired λp q=>p.1=q.1/\bL H p.1 q.2.1/\aN p.2 q.2.2
variable {xs:List (av × Addr × Value)} {kvs:List (av × V)} {H H':Hp}
theorem KT.val (r:KT H kvs xs) (k:av):fW (aV kvs k) ((atKey xs k).map (·.2)):=by
 induction r with
 | nil=>exact True.intro
 | @cons p q ps qs h t ih =>
 obtain⟨h1,_,h2⟩:=h;by_cases e:p.1=k
 ·have e':q.1=k:=h1.symm.trans e;have b:atKey (q::qs) k=some q.2:=by simp[atKey,List.find?_cons,e']
  rw[bv e,b];exact h2
 have e':¬q.1=k:=λz=>e (h1.trans z);have b:atKey (q::qs) k=atKey qs k:=by simp[atKey,List.find?_cons,e']
 rw[bx e,b];exact ih
theorem KT.repl (r:KT H kvs xs) (k:av) {y:V} (ry:aN y u) :
  KT H (kvs.map λkv=>if kv.1=k then (kv.1,y) else kv) (xs.map (putAt k u)):=by
 induction r with
 | nil=>exact .nil
 | @cons p q ps qs h t ih =>
 rw[Qx,Qx];refine .cons ?_ ih;obtain⟨h1,h2,h3⟩:=h;unfold putAt;by_cases e:p.1=k
 ·rw[Qs e,Qs (h1.symm.trans e)];exact⟨h1,h2,ry⟩
 rw[Qn e,Qn (λz=>e (h1.trans z))];exact⟨h1,h2,h3⟩
variable {b a:Addr}
theorem KT.put (r:KT H kvs xs) (k:av) {y:V} (hb:bL H k b) (ry:aN y u) :
  KT H (bq kvs k y) (storedH xs k b u):=by
 have e:(kvs.any λkv=>decide (kv.1=k))=(atKey xs k).isSome:=by
  rw[cM,(r.val k).isSome_eq,Option.isSome_map]
 unfold bq storedH;rw[e];by_cases q:(atKey xs k).isSome=true
 ·rw[Qs q,Qs q];exact r.repl k ry
 rw[Qn q,Qn q];exact Paired.snoc r ⟨rfl,hb,ry⟩
theorem KT.keeps (r:KT H kvs xs) (ht:∀b ys,H b=some (.tup ys)->H' b=some (.tup ys)):KT H' kvs xs :=
 Paired.mapP r λ_ _ z=>⟨z.1,z.2.1.keeps ht,z.2.2⟩
section
variable {P:Program} {w:World} {H:Hp} {h:Heap} {a:Addr}
theorem sP {u:HO} (ok:HOk P w H h) (e:Rd H a u):bp P w H h a u:=e.ok ok
variable {kvs:List (Key × V)}
theorem iL (ok:HOk P w H h) (e:Rd H a (.dK kvs)):kvs.length<=sizeLine/\(a==sysModules)=false/\∃vs,KV kvs vs/\h.DictOf (au P w) a vs :=
 show bp P w H h a (.dK kvs) from sP ok e
theorem uH (ok:HOk P w H h) (e:H a=some (.dK kvs)):kvs.length<=sizeLine/\(a==sysModules)=false/\∃vs,KV kvs vs/\h.DictOf (au P w) a vs:=iL ok (.inl e)
theorem mI (ok:HOk P w H h):∀{ks:av} {vs:List V} {its:List Value},Paired (KIt H) ks vs->aQ vs its->TK.Its (au P w) h ks its
 | _,_,_,.nil,.nil=>.nil
 | k::_,_,_,.cons q t,.cons rv r=>.cons (by
   cases k with
   | inl k=>cases q;exact fQ rv
   | inr ks =>
   obtain⟨c,rfl,q⟩:=q;obtain⟨_,its,r,o,h1,h2,n,h3⟩:=(show bp P w H h c (.tup (ks.map kV)) from ok c _ q)
   exact⟨c,rv,o,its.toArray,n,h1,h2,h3,by simpa using jH r⟩) (mI ok t r)
theorem c8 {ks:av} (ok:HOk P w H h) (e:bL H ks a):(bh P w).is h ks a:=by
 obtain⟨vs,e,pr⟩:=e;obtain⟨_,its,r,o,h1,h2,n,h3⟩:=(show bp P w H h a (.tup vs) from ok a _ e);exact⟨o,its.toArray,n,h1,h2,h3,by simpa using mI ok pr r⟩
theorem iK {kvs:List (av × V)} (ok:HOk P w H h) (e:Rd H a (.dT kvs)):kvs.length<=sizeLine/\(a==sysModules)=false /\
  ∃xs,KT H kvs xs/\h.DictOfH (bh P w) a xs:=by
 obtain⟨z,y,xs,r,o,es,ep,h1,h2,h3,h4,h5⟩:=(show bp P w H h a (.dT kvs) from sP ok e);refine⟨z,y,xs,r,o,es,ep,h1,h2,h3,h4,λx hx=>?_,h5⟩
 have all:∀{l:List (av × V)} {m:List (av × Addr × Value)},KT H l m->∀x∈m,(bh P w).is h x.1 x.2.1:=by
  intro l m q
  induction q with
  | nil=>intro x hx;exact nomatch hx
  | @cons p q ps qs hq t ih =>
  intro x hx;rcases Qj.mp hx with e|hx
  ·subst e;exact c8 ok (by rw[<-hq.1];exact hq.2.1)
  exact ih x hx
 exact all r x hx
theorem xf {kvs:List (av × V)} (ok:HOk P w H h) (e:H a=some (.dT kvs)):kvs.length<=sizeLine/\(a==sysModules)=false /\
  ∃xs,KT H kvs xs/\h.DictOfH (bh P w) a xs:=iK ok (.inl e)
end
def cN (H:Hp) (a:Addr) (y:V) (r:Option V):Prop :=
 (∃kvs k,Rd H a (.dK kvs)/\y=kV k/\r=aV kvs k)\/∃kvs k b,Rd H a (.dT kvs)/\y=.ref b/\bL H k b/\r=aV kvs k
def fX (H:Hp) (a:Addr) (y v:V) (H':Hp):Prop :=
 (∃kvs k,H a=some (.dK kvs)/\y=kV k/\kvs.length<sizeLine/\H'=upd H a (.dK (bq kvs k v))) \/
 ∃kvs k b,H a=some (.dT kvs)/\y=.ref b/\bL H k b/\kvs.length<sizeLine/\H'=upd H a (.dT (bq kvs k v))
theorem cN.k {H:Hp} {a:Addr} {kvs:List (Key × V)} {k:Key} (e:H a=some (.dK kvs)):cN H a (kV k) (aV kvs k):=.inl ⟨kvs,k,.inl e,rfl,rfl⟩
theorem cN.t {k:av} (e:H a=some (.dT kvs)) (eb:bL H k b):cN H a (.ref b) (aV kvs k):=.inr ⟨kvs,k,b,.inl e,rfl,eb,rfl⟩
theorem fX.k {H:Hp} {a:Addr} {kvs:List (Key × V)} {k:Key} {v:V} (e:H a=some (.dK kvs)) (hl:kvs.length<sizeLine):fX H a (kV k) v (upd H a (.dK (bq kvs k v))):=.inl ⟨kvs,k,e,rfl,hl,rfl⟩
theorem fX.t {k:av} {v:V} (e:H a=some (.dT kvs)) (eb:bL H k b) (hl:kvs.length<sizeLine) :
  fX H a (.ref b) v (upd H a (.dT (bq kvs k v))):=.inr ⟨kvs,k,b,e,rfl,eb,hl,rfl⟩
section
variable {X:Cx} {pins:A1} {σ:St} {H:Hp} {s:Shared} {a:Addr} {y v:V} {u r:Value} {o:Option V} {A:Around} {E:A0}
theorem Inv.big (I:Inv X pins σ H s):sysModules<s.heap.objs.size:=by
 have h:mainGlobals<s.heap.objs.size:=(I.mod.glob.keeps I.bk).lt;exact Nat.lt_trans (by decide) h
variable {Q:A0}
theorem rF (hu:A.units+8<cLine) (I:Inv X pins σ H s) (g:cN H a y (some v)) (ry:aN y u) (h:∀w' s',Inv X pins σ H s'->aN v w'->Q w' s') :
  wpAny (model X.prog X.w) A (getItem (.ref a) u) Q E s:=by
 rcases g with⟨kvs,k,e,ey,l⟩|⟨kvs,k,b,e,ey,eb,l⟩
 ·subst ey;obtain⟨z,hd,vs,rel,dd⟩:=iL I.hok e;obtain⟨w',hw,rw'⟩:=fW.some_of (v:=v) (o:=valueAt vs k) (by rw[l];exact rel.val k);exact wpAny_getItem_of (fQ ry) dd.mapOf hw (h w' _ (I.tok _) rw')
 subst ey;cases (show u=Value.ref b from ry);obtain⟨z,hd,xs,rel,dd⟩:=iK I.hok e;obtain⟨w',hw,rw'⟩:=fW.some_of (v:=v) (o:=(atKey xs k).map (·.2)) (by rw[l];exact rel.val k);obtain⟨p,hp,hp2⟩:=Xu.mp hw;refine wpAny_getItem_heap (fD hu) (c8 I.hok eb) dd hp ?_;rw[hp2];exact h w' _ (I.tok _) rw'
theorem Ai (hu:A.units+8<cLine) (I:Inv X pins σ H s) (g:cN H a y o) (ry:aN y u) (h:∀s',Inv X pins σ H s'->Q (.bool o.isSome) s') :
  wpAny (model X.prog X.w) A (compareOp .In u (.ref a)) Q E s:=by
 rcases g with⟨kvs,k,e,ey,l⟩|⟨kvs,k,b,e,ey,eb,l⟩
 ·subst ey;obtain⟨z,hd,vs,rel,dd⟩:=iL I.hok e;refine wpAny_in_of (fQ ry) hd dd.mapOf ?_;rw[<-(rel.val k).isSome_eq,<-l];exact h _ (I.tok _)
 subst ey;cases (show u=Value.ref b from ry);obtain⟨z,hd,xs,rel,dd⟩:=iK I.hok e;refine wpAny_in_heap (fD hu) (c8 I.hok eb) hd dd ?_;have q:=(rel.val k).isSome_eq;rw[Option.isSome_map]at q;rw[<-q,<-l];exact h _ (I.tok _)
theorem wf (hu:A.units+8<cLine) (I:Inv X pins σ H s) (g:cN H a y o) (ry:aN y u) (h:∀s',Inv X pins σ H s'->Q (.bool (!o.isSome)) s') :
  wpAny (model X.prog X.w) A (compareOp .NotIn u (.ref a)) Q E s:=by
 rcases g with⟨kvs,k,e,ey,l⟩|⟨kvs,k,b,e,ey,eb,l⟩
 ·subst ey;obtain⟨z,hd,vs,rel,dd⟩:=iL I.hok e;refine wpAny_notIn_of (fQ ry) hd dd.mapOf ?_;rw[<-(rel.val k).isSome_eq,<-l];exact h _ (I.tok _)
 subst ey;cases (show u=Value.ref b from ry);obtain⟨z,hd,xs,rel,dd⟩:=iK I.hok e;refine wpAny_notIn_heap (fD hu) (c8 I.hok eb) hd dd ?_;have q:=(rel.val k).isSome_eq;rw[Option.isSome_map]at q;rw[<-q,<-l];exact h _ (I.tok _)
theorem fU {h':Heap} {t':Nat} {ob:HO} (I:Inv X pins σ H s) (mu:Mut (H a)) (hs:Heap.SameBut a s.heap h') (he:∃q,h'.get? a=some q) (new:bp X.prog X.w (upd H a ob) h' a ob) :
  Inv X pins σ (upd H a ob) { s with heap:=h',toks:=t' } :=
 I.write (x:=a) (e:=a) mu (.inl rfl) (λb q hb z=>(hs.2 b hb).trans z) he new
theorem oF {P:Program} {w:World} {H':Hp} {h':Heap} {kvs:List (Key × V)} {vs:List (Key × Value)} (z:kvs.length<=sizeLine) (hd:(a==sysModules)=false) (rel:KV kvs vs) (dd:h'.DictOf (au P w) a vs) :
  bp P w H' h' a (.dK kvs):=⟨z,hd,vs,rel,dd⟩
theorem rE {H':Hp} {Q:Unit->Shared->Prop} (hu:A.units+8<cLine) (I:Inv X pins σ H s) (g:fX H a y v H') (ry:aN y u) (rv:aN v r) (h:∀s',Inv X pins σ H' s'->Q () s') :
  wpAny (model X.prog X.w) A (setItem (.ref a) u r) Q E s:=by
 rcases g with⟨kvs,k,e,ey,l,eH⟩|⟨kvs,k,b,e,ey,eb,l,eH⟩
 ·subst ey eH;obtain⟨z,hd,vs,rel,dd⟩:=uH I.hok e;have hz:vs.length<=sizeLine:=by rw[<-rel.length];exact z
  have hl:(bq kvs k v).length<=sizeLine:=by have:=bQ kvs k v;omega
  refine wpAny_setItem_pairs (hsz:=hz) (fQ ry) dd λh' dd' hs=>h _ ?_;have he:∃q,h'.get? a=some q:=let ⟨q,_,_,hq,_⟩:=dd';⟨q,hq⟩;exact fU I (by rw[e];exact True.intro) hs he (oF hl hd (rel.put k rv) dd')
 subst ey eH;cases (show u=Value.ref b from ry);obtain⟨z,hd,xs,rel,dd⟩:=xf I.hok e;have hz:xs.length<=sizeLine:=by rw[<-Xk rel];exact z
 have hl:(bq kvs k v).length<=sizeLine:=by have:=bQ kvs k v;omega
 refine wpAny_setItem_heap (hsz:=hz) (fD hu) (c8 I.hok eb) dd λh' dd' hs=>h _ ?_;obtain⟨q,es,ep,hq,h2,h3,h4,_,h5⟩:=dd';refine fU I (by rw[e];exact True.intro) hs ⟨q,hq⟩ ⟨hl,hd,_,(rel.put k eb rv).keeps λc ys ec=>?_,q,es,ep,hq,h2,h3,h4,h5⟩;rw[ah (wY ec e (λz=>nomatch z))];exact ec
end
section
variable {X:Cx} {pins:A1} {σ:St} {H:Hp} {s:Shared} {a:Addr} {kvs:List (Key × V)} {k:Key} {u:Value} {A:Around} {E:A0}
end
def zX (i:Expr):Prop:=∀ov iv,subscripted i false ov iv=operate [ov,iv] (getItem ov iv)
variable {Q E:A0} {pos:Pos} {s:Shared}
theorem vb {prog:Program} {w:World} {A:Around} {env:Env} {value slice:Expr} {T id:String}
  (hl:typeLookup (.type T) "__getitem__" = pure (some (.builtin id))) (hs:zX slice)
  (h:wpAny (model prog w) A (eval value env) (λo s₁=>wpAny (model prog w) A (eval slice env) (λi s₂=>s₂.TypeIs o T/\wpAny (model prog w) A (getItem o i) Q E s₂) E s₁) E s) :
  wpAny (model prog w) A (eval (.Subscript value slice pos) env) Q E s:=by
 refine Subscript_ (XV h (λo s₁ h₁=>XV h₁ (λi s₂ h₂=>?_) λ_ _ x=>x) λ_ _ x=>x);obtain⟨hT,h₂⟩:=h₂;unfold subscriptTail;refine Qa ?_;rw[getitemInPython_of_ne hT.not_modules];refine Qa (wpAny_specialOf hT hl ?_)
 have fin:wpAny (model prog w) A (subscripted slice false o i) (λr s₃=>wpAny (model prog w) A (letTemporaryGo value o r >>= λ_=>pure r) Q E s₃) E s₂:=by
  rw[hs o i];exact wpAny_operating (XV h₂ (λr s₃ h₃=>Qa (wpAny_letTemporaryGo (Qf h₃))) λ_ _ x=>x)
 first
  | exact Qf (Qa fin)
  | exact Qa (Qf (Qa fin))
  | exact Qa fin
variable {pins:A1} {X:Cx}
theorem mT {σ:St} {y:V} {o:Option V} (I:Inv X pins σ H s) (g:cN H a y o):s.TypeIs (.ref a) "dict" := by
 rcases g with⟨kvs,k,e,_,_⟩|⟨kvs,k,b,e,_,_,_⟩
 ·obtain⟨_,_,vs,_,dd⟩:=iL I.hok e;exact dd.typeIs
 obtain⟨_,_,xs,_,dd⟩:=iK I.hok e;exact dd.typeIs
def wL (td ty:TE):TE:=λσ H Q=>td σ H λx H1=>ty σ H1 λy H2=>∃a v,x=.ref a/\cN H2 a y (some v)/\Q v H2
def yN (ty td:TE):TE:=λσ H Q=>ty σ H λy H1=>td σ H1 λx H2=>∃a o,x=.ref a/\cN H2 a y o/\Q (.bl o.isSome) H2
def pc (ty td:TE):TE:=λσ H Q=>ty σ H λy H1=>td σ H1 λx H2=>∃a o,x=.ref a/\cN H2 a y o/\Q (.bl (!o.isSome)) H2
def wQ (td ty tv:TE):TS:=λD σ H=>tv σ H λv H1=>td σ H1 λx H2=>ty σ H2 λy H3=>∃a H4,x=.ref a/\fX H3 a y v H4/\D.nx σ H4
section
variable {X:Cx} {o i e value:Expr} {pos pos' tpos:Pos} {td ty tv:TE}
theorem eJ (hu:X.A.units+8<cLine) (ho:PE X o td) (hi:PE X i ty) (hs:zX i:=by exact λ_ _=>rfl):PE X (.Subscript o i pos) (wL td ty):=by
 intro pins s σ H Q I h;refine vb PySem.F.slot_dict_getitem.lookup hs (thn (ho pins s σ H _ I h) λu s1 ⟨x,H1,I1,rx,q1⟩=>thn (hi pins s1 σ H1 _ I1 q1) λiv s2 ⟨y,H2,I2,ry,a,v,ex,g,q2⟩=>?_);subst ex;obtain rfl:u=Value.ref a:=rx;exact⟨mT I2 g,rF hu I2 g ry λw' s3 I3 rw'=>⟨v,H2,I3,rw',q2⟩⟩
theorem xP (hu:X.A.units+8<cLine) (hi:PE X i ty) (ho:PE X o td):PC X .In i o (yN ty td):=by
 intro pins s σ H Q I h;refine thn (hi pins s σ H _ I h) λiv s1 ⟨y,H1,I1,ry,q1⟩=>thn (ho pins s1 σ H1 _ I1 q1) λu s2 ⟨x,H2,I2,rx,a,ov,ex,g,q2⟩=>?_;subst ex;obtain rfl:u=Value.ref a:=rx;exact Ai hu I2 g ry λs3 I3=>⟨.bl ov.isSome,H2,I3,rfl,q2⟩
theorem jw (hu:X.A.units+8<cLine) (hi:PE X i ty) (ho:PE X o td):PC X .NotIn i o (pc ty td):=by
 intro pins s σ H Q I h;refine thn (hi pins s σ H _ I h) λiv s1 ⟨y,H1,I1,ry,q1⟩=>thn (ho pins s1 σ H1 _ I1 q1) λu s2 ⟨x,H2,I2,rx,a,ov,ex,g,q2⟩=>?_;subst ex;obtain rfl:u=Value.ref a:=rx;exact wf hu I2 g ry λs3 I3=>⟨.bl (!ov.isSome),H2,I3,rfl,q2⟩
theorem dE (hu:X.A.units+8<cLine) (ho:PE X o td) (hi:PE X i ty) (hv:PE X value tv) (hs:swapsWith value (some (.Subscript o i pos')) pos.line X.env=pure false) :
  PS X (.Assign [.Subscript o i pos'] value pos) (wQ td ty tv):=by
 intro pins s σ H D I h;refine wpAny_Assign_Subscript (thn (hv pins s σ H _ I h) λr s1 ⟨v,H1,I1,rv,q1⟩=>thn (ho pins s1 σ H1 _ I1 q1) λu s2 ⟨x,H2,I2,rx,q2⟩=>thn (hi pins s2 σ H2 _ I2 q2) λiv s3 ⟨y,H3,I3,ry,a,H4,ex,g,q3⟩=>?_) hs;subst ex;obtain rfl:u=Value.ref a:=rx;exact rE hu I3 g ry rv λs4 I4=>⟨σ,H4,I4,q3⟩
end
theorem mS {P:Program} {w:World} (h:Heap) (hb:sysModules<h.objs.size):bp P w H (h.push { cls:=.type "dict", data:=.dict #[] }) h.objs.size (.dK []) :=
 ⟨QT _,beq_eq_false_iff_ne.mpr (Ne.symm (QF hb)),[],.nil,Heap.DictOf.new h⟩
theorem mR {P:Program} {w:World} (h:Heap) (hb:sysModules<h.objs.size):bp P w H (h.push { cls:=.type "dict", data:=.dict #[] }) h.objs.size (.dT []) :=
 ⟨QT _,beq_eq_false_iff_ne.mpr (Ne.symm (QF hb)),[],.nil,_,#[],0,Qy _ rfl,⟨rfl,rfl,rfl⟩,rfl,rfl,List.nodup_nil⟩
def xx:TE:=λ_ H Q=>∀p,H p=none->Q (.ref p) (upd H p (.dK []))
def xw:TE:=λ_ H Q=>∀p,H p=none->Q (.ref p) (upd H p (.dT []))
section
variable {X:Cx} {pos:Pos}
theorem tF:PE X (.Dict [] [] pos) xx:=λpins s σ H Q I h =>
 wpAny_Dict_empty ⟨.ref s.heap.objs.size,_,I.laid (a:=s.heap.objs.size) (o:=.dK []) (t':=s.toks) (λ_ _ q=>Qe _ q) (Qg _) (mS s.heap I.big),rfl,h _ (I.hok.fresh (Qg _))⟩
theorem tE:PE X (.Dict [] [] pos) xw:=λpins s σ H Q I h =>
 wpAny_Dict_empty ⟨.ref s.heap.objs.size,_,I.laid (a:=s.heap.objs.size) (o:=.dT []) (t':=s.toks) (λ_ _ q=>Qe _ q) (Qg _) (mR s.heap I.big),rfl,h _ (I.hok.fresh (Qg _))⟩
end
def nB:List (TE × TE)->St->Hp->(List (V × V)->Hp->Prop)->Prop
 | [],_,H,Q=>Q [] H
 | (tk,tv)::r,σ,H,Q=>tk σ H λx H1=>tv σ H1 λy H2=>nB r σ H2 λps H3=>Q ((x,y)::ps) H3
abbrev VV:List (V × V)->List (Value × Value)->Prop:=Paired λp q=>aN p.1 q.1/\aN p.2 q.2
def PPs (X:Cx) (pos:Pos) (keys:List (Option Expr)) (values:List Expr) (trs:List (TE × TE)):Prop :=
 ∀(pins:A1) (s:Shared) (σ:St) (H:Hp) (Q:List (V × V)->Hp->Prop),Inv X pins σ H s->nB trs σ H Q ->
  wpAny (model X.prog X.w) X.A (evalPairs (pairTrees keys values X.env pos)) (λvs s'=>∃ps H',Inv X pins σ H' s'/\VV ps vs/\Q ps H') X.xe s
theorem pJ:PPs X pos [] [] []:=λpins s σ H Q I h=>pairTrees_nil_walk ⟨[],H,I,.nil,h⟩
variable {trs:List (TE × TE)}
theorem lX {k v:Expr} {ks:List (Option Expr)} {vs:List Expr} {tk tv:TE} (hk:PE X k tk) (hv:PE X v tv) (hr:PPs X pos ks vs trs) :
  PPs X pos (some k::ks) (v::vs) ((tk,tv)::trs):=λpins s σ H Q I h =>
 pairTrees_cons_walk (thn (hk pins s σ H _ I h) λu s1 ⟨x,H1,I1,rx,q1⟩=>thn (hv pins s1 σ H1 _ I1 q1) λw2 s2 ⟨y,H2,I2,ry,q2⟩ =>
  thn (hr pins s2 σ H2 _ I2 q2) λws s3 ⟨ps,H3,I3,rel,q3⟩=>⟨(x,y)::ps,H3,I3,.cons ⟨rx,ry⟩ rel,q3⟩)
def ix (kvs more:List (Key × V)):List (Key × V):=more.foldl (λacc kv=>bq acc kv.1 kv.2) kvs
theorem KV.merge:∀{more:List (Key × V)} {rs:List (Key × Value)} {kvs:List (Key × V)} {vs:List (Key × Value)},KV more rs->KV kvs vs->KV (ix kvs more) (merged vs rs):=by
 intro more rs kvs vs r;unfold KV at r
 induction r generalizing kvs vs with
 | nil=>intro q;exact q
 | @cons p q ps qs h t ih =>
 intro r0
 have e:KV (bq kvs p.1 p.2) (stored vs q.1 q.2):=by
  have:=r0.put p.1 h.2;rw[<-h.1];exact this
 exact ih e
theorem eV:∀(more kvs:List (Key × V)),(ix kvs more).length<=kvs.length+more.length
 | [],kvs=>by show kvs.length<=kvs.length+0;omega
 | p::r,kvs=>by
  have h1:=eV r (bq kvs p.1 p.2);have h2:=bQ kvs p.1 p.2;show (ix (bq kvs p.1 p.2) r).length<=_;rw[Xm];omega
theorem iQ {P:Program} {w:World}:∀{kvs:List (Key × V)} {ws:List (Value × Value)},VV (kvs.map λkv=>(kV kv.1,kv.2)) ws->∃rs,Carries (au P w) ws rs/\KV kvs rs
 | [],_,r=>by rw[List.map_nil]at r;cases r;exact⟨[],True.intro,.nil⟩
 | p::kvs,_,r=>by
  rw[Qx]at r
  cases r with
  | @cons a b as bs h t =>
  obtain⟨rs,c,q⟩:=iQ (P:=P) (w:=w) t;obtain⟨b1,b2⟩:=b;exact⟨(p.1,b2)::rs,⟨fQ h.1,rfl,c⟩,.cons ⟨rfl,h.2⟩ q⟩
def yM (trs:List (TE × TE)):TE:=λσ H Q=>∀p,H p=none->nB trs σ (upd H p (.dK [])) λps H2=>H2 p=some (.dK [])/\∃kvs:List (Key × V),ps=kvs.map (λkv=>(kV kv.1,kv.2))/\kvs.length<=15/\Q (.ref p) (upd H2 p (.dK (ix [] kvs)))
theorem pM {keys:List (Option Expr)} {values:List Expr} (h:PPs X pos keys values trs) (hall:keys.all (·.isSome)=true) (hl:keys.length=values.length) (h0:keys≠[])
  (h15:keys.length<=15):PE X (.Dict keys values pos) (yM trs):=by
 intro pins s σ H Q I q;have hn:=I.hok.fresh (Qg s.heap.objs.size);have I1:=I.laid (a:=s.heap.objs.size) (o:=.dK []) (h':=s.heap.push { cls:=.type "dict", data:=.dict #[] }) (t':=s.toks) (λ_ _ q=>Qe _ q) (Qg _) (mS s.heap I.big);refine wpAny_Dict_walk (knd:=au X.prog X.w) hall hl h0 h15 (thn (h pins _ σ _ _ I1 (q _ hn)) λws s2 ⟨ps,H2,I2,rel,e,kvs,ep,lk,q2⟩=>?_);subst ep;obtain⟨rs,c,rk⟩:=iQ (P:=X.prog) (w:=X.w) rel;obtain⟨z,hd,vs0,r0,dd⟩:=uH I2.hok e;cases r0;refine⟨rs,c,dd,λh' dd' hs=>⟨.ref s.heap.objs.size,_,?_,rfl,q2⟩⟩
 have hz:(ix [] kvs).length<=sizeLine:=by
  have h1:=eV kvs [];rw[List.length_nil]at h1;rw[XQ];omega
 have he:∃q,h'.get? s.heap.objs.size=some q:=let ⟨q,_,_,hq,_⟩:=dd';⟨q,hq⟩;exact fU I2 (by rw[e];exact True.intro) hs he (oF hz hd (rk.merge .nil) dd')
structure M1 (X:Cx) (o:Expr) (m:Str) (apos:Pos) (e:Expr) (cpos:Pos):Prop where
 base:attributeBase o m X.env (eval o X.env)=eval o X.env
 few:((backTo cpos (starEach [e] X.env)).all (λx=>!x.1)&&(backToKw cpos (keywordEach [] X.env)).all (λx=>x.1.isSome)
  && decide (([e]:List Expr).length+([]:List Keyword).length+(if ([]:List Keyword).isEmpty then 0 else 1)<30))=true
 line:(apos.endLine==cpos.line)=true
 trees:backTo cpos (starEach [e] X.env)=[(false,eval e X.env)]
structure M2 (X:Cx) (o:Expr) (m:Str) (apos:Pos) (e f:Expr) (cpos:Pos):Prop where
 base:attributeBase o m X.env (eval o X.env)=eval o X.env
 few:((backTo cpos (starEach [e,f] X.env)).all (λx=>!x.1)&&(backToKw cpos (keywordEach [] X.env)).all (λx=>x.1.isSome)
  && decide (([e,f]:List Expr).length+([]:List Keyword).length+(if ([]:List Keyword).isEmpty then 0 else 1)<30))=true
 line:(apos.endLine==cpos.line)=true
 trees:backTo cpos (starEach [e,f] X.env)=[(false,eval e X.env),(false,eval f X.env)]
def IsD (H:Hp) (a:Addr):Prop:=(∃kvs,Rd H a (.dK kvs))\/∃kvs,Rd H a (.dT kvs)
theorem ut {σ:St} (I:Inv X pins σ H s) (d:IsD H a) :
  s.TypeIs (.ref a) "dict" /\ (∀b,Value.ref a=.ref b->∃ob,s.heap.get? b=some ob/\ob.dict=none)/\(a==sysModules)=false:=by
 rcases d with⟨kvs,e⟩|⟨kvs,e⟩
 ·obtain⟨_,hd,vs,_,dd⟩:=iL I.hok e;refine⟨dd.typeIs,λb q=>?_,hd⟩;cases q;obtain⟨ob,_,_,h1,h2,_⟩:=dd;exact⟨ob,h1,h2.2.1⟩
 obtain⟨_,hd,xs,_,dd⟩:=iK I.hok e;refine⟨dd.typeIs,λb q=>?_,hd⟩;cases q;obtain⟨ob,_,_,h1,h2,_⟩:=dd;exact⟨ob,h1,h2.2.1⟩
section
variable {X:Cx} {pins:A1} {σ:St} {H:Hp} {s:Shared} {a:Addr} {y d:V} {u r:Value} {o:Option V} {A:Around} {E:A0}
theorem yo {Q:A0} (hu:A.units+8<cLine) (I:Inv X pins σ H s) (g:cN H a y o) (ry:aN y u) (h:∀w' s',Inv X pins σ H s'->aN (o.getD .non) w'->Q w' s') :
  wpAny (model X.prog X.w) A (call (.builtin "dict.get") [.ref a,u]) Q E s:=by
 rcases g with⟨kvs,k,e,ey,l⟩|⟨kvs,k,b,e,ey,eb,l⟩
 ·subst ey;obtain⟨z,hd,vs,rel,dd⟩:=iL I.hok e;refine call_meetsIn PySem.F.slot_dict_get dd.typeIs PySem.F.entry_dict_get (PySem.F.args_dict_get_2 _ _) (meets_dict_get (au X.prog X.w) a (fQ ry) hd) ⟨_,dd.mapOf,h _ _ (I.tok _) ?_⟩;rw[l];exact(rel.val k).getD rfl
 subst ey;cases (show u=Value.ref b from ry);obtain⟨z,hd,xs,rel,dd⟩:=iK I.hok e;refine call_meetsIn PySem.F.slot_dict_get dd.typeIs PySem.F.entry_dict_get (PySem.F.args_dict_get_2 _ _) (meetsH_dict_get (bh X.prog X.w) a b hd) ⟨fD hu,k,xs,c8 I.hok eb,dd,h _ _ (I.tok _) ?_⟩;rw[l];exact(rel.val k).getD rfl
end
def r9 (td ty:TE):TE:=λσ H Q=>td σ H λx H1=>∃a,x=.ref a/\IsD H1 a/\ty σ H1 λy H2=>∃o,cN H2 a y o/\Q (o.getD .non) H2
section
variable {X:Cx} {o e f:Expr} {apos cpos:Pos} {td ty tx:TE}
theorem tH (hu:X.A.units+8<cLine) (ho:PE X o td) (he:PE X e ty) (m:M1 X o "get" apos e cpos):PE X (.Call (.Attribute o "get" apos) [e] [] cpos) (r9 td ty):=by
 intro pins s σ H Q I h;refine wpAny_Call_method m.base m.few m.line PySem.F.plainAttrs_dict PySem.F.slot_dict_get PySem.F.type_dict_get (thn (ho pins s σ H _ I h) λu s1 ⟨x,H1,I1,rx,a,ex,d,q1⟩=>?_);subst ex;obtain rfl:u=Value.ref a:=rx;obtain⟨t1,t2,_⟩:=ut I1 d;refine⟨t1,t2,?_⟩;rw[m.trees];refine Calls.callWith_builtin rfl (Calls.evalArgs_plain (Calls.spliced_cons (thn (he pins s1 σ H1 _ I1 q1) λiv s2 ⟨y,H2,I2,ry,ov,g,q2⟩=>Calls.spliced_nil ?_)));exact yo hu I2 g ry λw' s3 I3 rw'=>⟨_,H2,I3,rw',q2⟩
end
section
variable {X:Cx} {pins:A1} {σ:St} {H:Hp} {s:Shared} {a:Addr} {kvs:List (Key × V)} {A:Around} {E:A0}
end
section
variable {X:Cx} {pins:A1} {σ:St} {H:Hp} {s:Shared} {a:Addr} {y:V} {u:Value} {A:Around} {E:A0}
end
end L2
namespace Att
open PySem PySem.W PySem.Calls PyProof.Rows
theorem gA {P:Params} {h:Heap}:∀(ns:List Int) (vs:List Value),WellAll P h vs (ns.map WData.int)->IntsAre vs ns:=by
 intro ns
 induction ns with
 | nil =>
  intro vs w;rw[List.map_nil]at w;cases w;exact .nil
 | cons n ns ih =>
 intro vs w;rw[Qx]at w
 cases w with
 | cons a b =>
 cases a;exact .cons _ _ (ih _ b)
theorem qL {l:OpenLaw} {n:Nat} (hn:l.most=some n) {P:Params} {h:Heap} {args:List WData} {vals:List Value}
  (hpre:l.row.toRowW.claim.pre args=true) (hwl:WellAll P h vals args) :
  ∃a vs ns,vals=[Value.ref a]/\args=[WData.list (ns.map WData.int)]/\h.get? a=some { cls:=.type "list", data:=.seq vs.toArray }/\IntsAre vs ns/\ns.length<=n:=by
 have hsh:WShape.hasAll [] args [.list .int]=true:=(pre_splitW hpre).1;have hc:l.pre.holds [] { args:=args }=true:=(pre_splitW hpre).2;obtain⟨d,r,rfl,h1,h2⟩:=hasAllW_cons hsh;obtain rfl:=hasAllW_nil h2;obtain⟨xs,rfl,h3⟩:=hasW_list h1;obtain⟨ns,rfl⟩:=items_int h3
 have hlen:ns.length<=n:=by
  unfold OpenLaw.pre at hc
  have h4:(WTm.not (.lt (.lit (.int (n:Int))) (.len (.arg 0)))).holds [] { args:=[.list (ns.map .int)] }=true:=by
   have h4:=(holds_andW hc).1;rw[hn]at h4;exact h4
  have h5:=condW_of h4 (w_not (w_lt w_lit (w_len_list (w_arg rfl))));rw[Qd]at h5;refine Nat.le_of_not_lt λq=>?_;have q':(n:Int)<((ns.length:Nat):Int):=by omega
  first
   | (rw[Qu q']at h5;exact absurd h5 (by decide))
   | (simp at h5;omega)
 cases hwl with
 | cons w1 w2 =>
 cases w2
 cases w1 with
 | list ho hall=>exact⟨_,_,ns,rfl,rfl,ho,gA ns _ hall,hlen⟩
theorem qM (l:OpenLaw) (args:List WData):l.row.toRowW.claim.post args (.bool true) args=true :=
 postW_of (r:=l.row.toRowW) (X:=(true==true))
  (show WShape.has [] (.bool true) .bool=true by first|rfl|decide|simp[WShape.has,WShape.arms,WShape.armsAll])
  (show (WTm.eq .res (.lit (.bool true))).value [] { args:=args,res:=some (.bool true),after:=args }=some (.bool (true==true)) from w_eq_bool (w_res rfl) w_lit) rfl
theorem m8 {l:OpenLaw} {n:Nat} {q:Program} {loose:List Str} {XP:A2->Heap->Prop} {YP:World->Heap->Prop} {d:DefRec}
  (hn:l.most=some n) (hdf:d.params.defaults=[])
  (call:∀(w:World) (s₀ s₁:Shared) (mg mb:A2) (fa:Addr) (o:Obj) (pm cd doc:Value) (a:Addr) (vs:List Value) (ns:List Int),
   Ground q loose [] XP w s₀ mg mb s₁.heap->YP w s₁.heap ->
   s₁.heap.get? fa=some o->o.data=.func (docDef d.name d.params d.body d.scope pm cd doc)->s₁.heap.CodeRec cd d.name->mg d.name=some (.ref fa) ->
   s₁.heap.get? a=some { cls:=.type "list", data:=.seq vs.toArray }->IntsAre vs ns->ns.length<=n->s₁.gens=#[] ->
   codeAny (model l.prog w) callerA (.call (.ref fa) ⟨[.ref a],[]⟩) (λr s'=>r=.ok (.ret (.bool true))/\OldK s₁.heap s'.heap/\s'.os=s₁.os/\AllBare s'.gens) s₁) :
  WalkO q loose XP YP l.row.toRowW d [] (λf vs=>PySem.call f vs):=by
 intro w s₀ s₁ mg mb G Y fa o pm cd doc dV kV ho hd hcd hD hmg hg args vals as hpre hlay hrd hwl hlo;obtain rfl:dV=.none:=Dflts.none hD hdf;obtain rfl:kV=.none:=Dflts.noKw hD;obtain⟨a,vs,ns,rfl,rfl,hobj,hints,hlen⟩:=qL hn hpre hwl;refine enter_call (codeAny_mono (call w s₀ s₁ mg mb fa o pm cd doc a vs ns G Y ho (fd_plain hd) hcd hmg hobj hints hlen hg) λr s' hq=>?_);obtain⟨rfl,h2,h3,h4⟩:=hq;exact⟨.inl ⟨.bool true,.bool true,[],rfl,λ_=>rfl,.bool true,qM l _,λ_=>⟨List.Pairwise.nil,λ_ hm=>(nomatch hm)⟩⟩,h2,h3,h4⟩
section
variable {prog:Program} {w:World} {A:Around} {E:A0} {s:Shared} {K:Frag}
end
end Att
namespace L2
open PySem PySem.Spec PyProof.Rows
theorem jc:∀{vs:List Value} {ns:List Int},IntsAre vs ns->aQ (ns.map V.int) vs
 | _,_,.nil=>.nil
 | _,_,.cons n t h=>.cons ⟨t,rfl⟩ (jc h)
end L2
/- THE LAST THEOREM (shape;LID,My.* are yours):
  My.Adr: a structure of the addresses that your layer names (classes,functions);My.Txt K t: a structure (Prop) of the equations over K;
  My.txt_mk:{K} {implicit addresses ..} (e1:nsIn K mainGlobals "law" = some (some (.ref f))) (e2:K.lookup f=some ⟨oc,od,.func (fnOf "law" "law" params body scope dV kV doc pm an cdv ct),sl⟩) (e3:codeIn K cdv "law" = true) ..:∃t,My.Txt K t
(the tactic k_is has no namespace: write k_is) -/
namespace L2
open PySem PySem.Spec PyProof.Rows
abbrev CX0:CXT:=λ_ _ _ _ _ _=>False
abbrev E0:XK:=λ_ _ _=>False
variable {X:Cx}
theorem wU:iX CX0 X E0:=λ_ _ _ _ _ _ _ h=>h.elim
structure Fun (K:PySem.W.Frag) (x qual:Str) (st:Stmt) (f:Addr) (fd:FuncData):Prop where
 ex:∃(oc:Value) (od:Option Addr) (kV doc pm:Value) (an:Option Addr) (cdv ct:Value) (osl:Array (Option Value)),
  fd=PySem.W.fnOf x qual (cL st) (bV st) (aw st) .none kV doc pm an cdv ct/\K.lookup f=some ⟨oc,od,.func fd,osl⟩/\PySem.W.codeIn K cdv qual=true
 kp:PySem.W.keepIn K (.ref f)=true
section
variable {P:Program} {w:World} {K:PySem.W.Frag} {mg:A2} {base:Heap}
variable {x qual:Str}
theorem Fun.ok {st:Stmt} {f:Addr} {fd:FuncData} {N ps:List Str} {k:Nat} {sp:Sp} (F:Fun K x qual st f fd) (S:FnScope N ps (aw st)) (len:∀vs H Q E,sp vs H Q E->vs.length=ps.length)
  (hbody:∀(cdv:Value) (A:Around) (outer:List Env) (s:Shared) (H:Hp) (vs:List V) (Q:VK) (E:XK),Room k (A.deeper (envOfC qual (aw st) s.heap.objs.size f cdv))->sp vs H Q E ->
   ∃t,PSs (cxOf CX0 P w K mg base N qual (aw st) f cdv A outer s H E).nox (bV st) t/\t { nx:=λ_ H'=>Q .non H',rt:=Q } (start N vs) H):FnOk P w K mg base CX0 (k+1) f fd ps sp:=by
 obtain⟨oc,od,kV,doc,pm,an,cdv,ct,osl,rfl,lk,hcd⟩:=F.ex;refine xc lk hcd S len λA outer s H vs Q E hr hsp=>?_;obtain⟨t,h,q⟩:=hbody cdv A outer s H vs Q E hr hsp;exact⟨t,h.nox,q⟩
theorem Fun.binds {st:Stmt} {f:Addr} {fd:FuncData} {ps:List Str} (F:Fun K x qual st f fd)
  (h:∀(kV doc pm:Value) (an:Option Addr) (cdv ct:Value) (us:List Value),us.length=ps.length->bindArgs (PySem.W.fnOf x qual (cL st) (bV st) (aw st) .none kV doc pm an cdv ct) ⟨us,[]⟩=pure (ps.zip us)):iY K fd ps []:=by
 obtain⟨oc,od,kV,doc,pm,an,cdv,ct,osl,rfl,lk,hcd⟩:=F.ex;exact .all (h kV doc pm an cdv ct)
theorem ox {st:Stmt} {f:Addr} {oc:Value} {od an:Option Addr} {osl:Array (Option Value)} {kV doc pm cdv ct:Value} (l:K.lookup f=some ⟨oc,od,.func (PySem.W.fnOf x qual (cL st) (bV st) (aw st) .none kV doc pm an cdv ct),osl⟩)
  (c:PySem.W.codeIn K cdv qual=true) (k:PySem.W.keepIn K (.ref f)=true):Fun K x qual st f (PySem.W.fnOf x qual (cL st) (bV st) (aw st) .none kV doc pm an cdv ct):=⟨⟨oc,od,kV,doc,pm,an,cdv,ct,osl,rfl,l,c⟩,k⟩
end
theorem cB {A:Around} {k:Nat} (hr:Room k A):A.units+8<cLine:=XO (Nat.add_le_add_left (by decide:8<=64) _) hr.units
section
variable {X:Cx}
theorem pv (i:Nat) {x:Str} {pos:Pos} (hN:X.N[i]?=some x:=by rfl) (hv:Vis X.env.scope x:=by first|exact Or.inl rfl|exact Or.inr (Or.inl rfl)|exact Or.inr (Or.inr rfl)) (hd:(x==("__debug__" : Str))=false:=by decide)
  (hcd:(x==("__classdict__" : Str))=false:=by decide):PE X (.Name x pos) (e_ i):=xL hN hv hd hcd
end
theorem iteF {A B:Prop} (h:B):if false=true then A else B:=by
 rw[Qn Qr];exact h
theorem iteT {A B:Prop} (h:A):if true=true then A else B:=by
 rw[Qs rfl];exact h
theorem mK {c A B:Prop} [Decidable c] (h1:c->A) (h2:¬c->B):if c then A else B:=by
 by_cases h:c
 ·rw[Qs h];exact h1 h
 rw[Qn h];exact h2 h
def ak (H H':Hp):Prop:=∀b o,H b=some o->H' b=some o
theorem ak.refl (H:Hp):ak H H:=λ_ _ h=>h
variable {H H1 H2 H' H4:Hp}
theorem ak.trans (a:ak H H1) (b:ak H1 H2):ak H H2:=λc o h=>b c o (a c o h)
variable {a c e T:Addr}
theorem ak.seq {K:PySem.W.Frag} {xs:List V} (e:ak H H') (h:SqL K H a xs):SqL K H' a xs:=by
 rcases h with(h|⟨o,h⟩)|h
 ·exact .inl (.inl (e _ _ h))
 ·exact .inl (.inr ⟨o,e _ _ h⟩)
 exact .inr h
section
variable {κ:Type} [DecidableEq κ]
variable {kvs:List (κ × V)}
theorem dU {k:κ} (h:aV kvs k=none):¬k∈kvs.map (·.1):=by
 intro m;obtain⟨p,hp,e⟩:=Ql.mp m;have q:(kvs.any λkv=>decide (kv.1=k))=true:=List.any_eq_true.mpr ⟨p,hp,Qu e⟩;rw[cM,h]at q;exact absurd q (by simp)
theorem oW {k:κ} {v:V} (h:aV kvs k=some v):k∈kvs.map (·.1):=by
 have q:(kvs.any λkv=>decide (kv.1=k))=true:=by
  rw[cM,h]
  all_goals rfl
 obtain⟨p,hp,e⟩:=List.any_eq_true.mp q;exact Ql.mpr ⟨p,hp,Xv e⟩
theorem pT:∀{l:List κ} {k:κ},l.Nodup->¬k∈l->(l++[k]).Nodup
 | [],k,_,_=>by simp
 | a::r,k,h,hk=>by
  obtain⟨h1,h2⟩:=QS.mp h;show (a::(r++[k])).Nodup;refine QS.mpr ⟨λm=>?_,pT h2 λm=>hk (Qj.mpr (Or.inr m))⟩;rcases Qz.mp m with q|q
  ·exact h1 q
  exact hk (Qj.mpr (Or.inl (Qv.mp q).symm))
end
section
variable {X:Cx}
end
def wk:St->St->Prop
 | [],[]=>True
 | none::a,_::b=>wk a b
 | some x::a,y::b=>y=some x/\wk a b
 | _,_=>False
theorem jY:∀{a b:St},wk a b->a.length=b.length
 | [],[],_=>rfl
 | [],_::_,h=>h.elim
 | none::_,[],h=>h.elim
 | some _::_,[],h=>h.elim
 | none::a,_::b,h=>congrArg (·+1) (jY (a:=a) (b:=b) h)
 | some _::a,_::b,h=>congrArg (·+1) (jY (a:=a) (b:=b) h.2)
theorem jZ:∀{a b:St},wk a b->∀(i:Nat) (v:V),a[i]?=some (some v)->b[i]?=some (some v)
 | [],[],_,i,v,e=>by simp at e
 | [],_::_,h,_,_,_=>h.elim
 | none::_,[],h,_,_,_=>h.elim
 | some _::_,[],h,_,_,_=>h.elim
 | none::a,y::b,h,0,v,e=>by simp at e
 | none::a,y::b,h,i+1,v,e=>by
  have:=jZ (a:=a) (b:=b) h i v (by simpa using e);simpa using this
 | some x::a,y::b,h,0,v,e=>by
  have e':x=v:=by simpa using e
  subst e';rw[h.1];rfl
 | some x::a,y::b,h,i+1,v,e=>by
  have:=jZ (a:=a) (b:=b) h.2 i v (by simpa using e);simpa using this
def cC (env:Env):List (Str × NameKind)->List (Str × Addr)->List (Str × Addr)
 | [],acc=>acc
 | (n,k)::r,acc=>cC env r (if (k==.free)=true then (n,(env.cells.lookup n).getD 0)::acc else acc)
theorem iN {env:Env}:∀(ns:List (Str × NameKind)) (acc:List (Str × Addr)),(∀y∈ns,y.2=.free->∃c,env.cells.lookup y.1=some c) ->
  (forIn ns acc (fun x r=>match x with
   | (name,kind)=>if (kind==NameKind.free)=true then (do let c <-cellOf env name;pure (ForInStep.yield ((name,c)::r))) else pure (ForInStep.yield r)):Sem (List (Str × Addr)))=pure (cC env ns acc)
 | [],acc,_=>rfl
 | (n,k)::r,acc,h=>by
  rw[List.forIn_cons];have ih:=λa=>iN (env:=env) r a λy hy=>h y (Qp _ hy);by_cases hk:(k==NameKind.free)=true
  ·obtain⟨c,hc⟩:=h (n,k) Xp (by simpa using hk);have e1:cellOf env n=pure c:=by unfold cellOf;rw[hc]
   simp only[hk,if_true,e1,pure_bind];unfold cC;simp only[hk,if_true,hc,Option.getD_some];exact ih _
  simp only[hk,XA,pure_bind];unfold cC;simp only[hk,XA];exact ih _
variable {env:Env} {scope:Scope}
theorem iP (h:∀y∈scope.names,y.2=.free->∃c,env.cells.lookup y.1=some c):closureFor scope env=pure (cC env scope.names []):=by
 have e:=iN scope.names [] h;unfold closureFor
 first
  | (rw[show (forIn scope.names ([]:List (Str × Addr)) _:Sem (List (Str × Addr)))=pure (cC env scope.names []) from e];rfl)
  | (simp only[bind_pure];exact e)
  | exact(congrArg (· >>= pure) e)
theorem gi {env:Env}:∀(ns:List (Str × NameKind)) (acc:List (Str × Addr)) (n:Str) (a:Addr),(n,a)∈cC env ns acc->(n,a)∈acc\/(a=(env.cells.lookup n).getD 0/\(n,NameKind.free)∈ns)
 | [],acc,n,a,h=>.inl h
 | (m,k)::r,acc,n,a,h=>by
  unfold cC at h;by_cases hk:(k==NameKind.free)=true
  ·rw[Qs hk]at h;rcases gi r _ n a h with q|⟨q1,q2⟩
   ·rcases Qj.mp q with q|q
    ·cases q;have hk':k=.free:=by simpa using hk
     subst hk';exact .inr ⟨rfl,Xp⟩
    exact .inl q
   exact .inr ⟨q1,Qp _ q2⟩
  rw[Qn hk]at h;rcases gi r _ n a h with q|⟨q1,q2⟩
  ·exact .inl q
  exact .inr ⟨q1,Qp _ q2⟩
theorem jO {env:Env}:∀(ns:List (Str × NameKind)) (acc:List (Str × Addr)) (p:Str × Addr),p∈acc->p∈cC env ns acc
 | [],_,_,h=>h
 | (m,k)::r,acc,p,h=>by
  unfold cC;refine jO r _ p ?_
  split
  ·exact Qp _ h
  exact h
theorem iM {env:Env}:∀(ns:List (Str × NameKind)) (acc:List (Str × Addr)) (n:Str),(n,NameKind.free)∈ns->(n,(env.cells.lookup n).getD 0)∈cC env ns acc
 | [],_,_,h=>nomatch h
 | (m,k)::r,acc,n,h=>by
  unfold cC;rcases Qj.mp h with q|q
  ·cases q;refine jO r _ _ ?_;rw[Qs (by rfl)];exact Xp
  exact iM r _ n q
theorem dF {α β:Type} [BEq α] [LawfulBEq α]:∀{l:List (α × β)} {x:α} {y:β},l.lookup x=some y->(x,y)∈l
 | [],_,_,h=>by simp at h
 | (a,b)::r,x,y,h=>by
  rw[Q6]at h;by_cases e:(x==a)=true
  ·rw[e]at h;have e':x=a:=by simpa using e
   have h':b=y:=by simpa using h
   subst e' h';exact Xp
  have e2:(x==a)=false:=by simpa using e
  rw[e2]at h;exact Qp _ (dF (by simpa using h))
theorem eS {α β:Type} [BEq α] [LawfulBEq α]:∀{l:List (α × β)} {x:α} {y:β},(x,y)∈l->∃z,l.lookup x=some z
 | [],_,_,h=>nomatch h
 | (a,b)::r,x,y,h=>by
  rw[Q6];by_cases e:(x==a)=true
  ·rw[e];exact⟨b,rfl⟩
  have e2:(x==a)=false:=by simpa using e
  rw[e2];rcases Qj.mp h with q|q
  ·cases q;simp at e
  exact eS q
variable {x:Str} {ns:List (Str × NameKind)}
theorem uQ (h:(cC env ns []).lookup x=some c) (hall:∀y∈ns,y.2=.free->∃c,env.cells.lookup y.1=some c):env.cells.lookup x=some c:=by
 rcases gi ns [] x c (dF h) with q|⟨q1,q2⟩
 ·nomatch q
 obtain⟨c',hc⟩:=hall _ q2 rfl;have hc':env.cells.lookup x=some c':=hc;rw[hc']at q1;rw[hc',q1];rfl
theorem qt {env:Env} (h:(x,NameKind.free)∈ns):∃c,(cC env ns []).lookup x=some c:=eS (iM ns [] x h)
noncomputable def Cx.block (X:Cx) (N:List Str) (scope:Scope) (C:Addr) (s:Shared) (H:Hp) (fp:A3):Cx :=
 { X with N:=N,s₀:=s,H₀:=H,env:=compEnvC scope (cC X.env scope.names []) C X.env,outer:=X.stack,ex:=fp,fn:=λ_=>false,pn:=[],xe:=λ_ _=>False }
theorem kj {k:NameKind} (h:(relabel scope env).names.lookup x=some k):∃k',scope.names.lookup x=some k'/\(k=k'\/(k'=.free/\k=.cell)):=by
 unfold relabel at h;generalize scope.names=ns at h
 induction ns with
 | nil=>simp at h
 | cons p r ih =>
 obtain⟨n,k0⟩:=p;rw[Qx]at h;by_cases e:(x==n)=true
 ·refine⟨k0,by rw[Q6,e],?_⟩;by_cases c:(k0==NameKind.free&&env.scope.kind==.function&&env.kindOf n==some .cell)=true
  ·have h1:some NameKind.cell=some k:=by
    have h2:=h;simp only[c,if_true]at h2;rw[Q6,e]at h2;exact h2
   have h3:k0=.free:=by
    simp only[Xr,beq_iff_eq]at c;exact c.1.1
   exact .inr ⟨h3,(QC h1).symm⟩
  have h1:some k0=some k:=by
   have h2:=h;simp only[c,QH,XA]at h2;rw[Q6,e]at h2;exact h2
  exact .inl (QC h1).symm
 have e2:(x==n)=false:=by simpa using e
 rw[Q6,e2];refine ih ?_;by_cases c:(k0==NameKind.free&&env.scope.kind==.function&&env.kindOf n==some .cell)=true
 ·have h2:=h;simp only[c,if_true]at h2;rw[Q6,e2]at h2;exact h2
 have h2:=h;simp only[c,QH,XA]at h2;rw[Q6,e2]at h2;exact h2
theorem km (h:scope.names.lookup x=some .free):(relabel scope env).names.lookup x=some .cell\/(relabel scope env).names.lookup x=some .free:=by
 unfold relabel;show List.lookup x (scope.names.map _)=_\/List.lookup x (scope.names.map _)=_;generalize scope.names=ns at h
 induction ns with
 | nil=>simp at h
 | cons p r ih =>
 obtain⟨n,k0⟩:=p;rw[Qx];by_cases e:(x==n)=true
 ·rw[Q6,e]at h;have h':k0=.free:=by simpa using h
  subst h';by_cases c:(NameKind.free==NameKind.free&&env.scope.kind==.function&&env.kindOf n==some .cell)=true
  ·left
   simp only[c,if_true];rw[Q6,e]
  right
  simp only[c,QH,XA];rw[Q6,e]
 have e2:(x==n)=false:=by simpa using e
 rw[Q6,e2]at h;have h3:=ih h;by_cases c:(k0==NameKind.free&&env.scope.kind==.function&&env.kindOf n==some .cell)=true
 ·simp only[c,if_true];rw[Q6,e2];exact h3
 simp only[c,QH,XA];rw[Q6,e2];exact h3
def wD (X:Cx) (ifs:List Expr) (t:TT):Prop :=
 ∀(pins:A1) (s:Shared) (σ:St) (H:Hp) (Q:Bool->Hp->Prop),Inv X pins σ H s->t σ H Q ->
  wpAny (model X.prog X.w) X.A (forIn ifs true λc r=>if r=true then do let ok <-isTrue c X.env (eval c X.env);pure (ForInStep.yield ok) else pure (ForInStep.yield r)) (TP X pins σ Q) X.xe s
def lF:TT:=λ_ H Q=>Q true H
theorem d4:wD X [] lF:=λ_ _ _ H _ I h=>wpAny_tests_nil ⟨H,I,h⟩
theorem dm {c:Expr} {t:TT} (h:PT X c t):wD X [c] t:=λpins s σ H Q I hw=>wpAny_tests_one (h pins s σ H Q I hw)
theorem fV {prog:Program} {w:World} {A:Around} {R:Result->Shared->Prop} {s:Shared} {elt target iter:Expr} {ifs:List Expr} {pos:Pos} {it acc:Value} (I:Nat->Shared->Prop)
  (turn:∀n s,I n s->wpAny (model prog w) A (pyNext it) (fun r s1=>match r with
   | none=>R (.ok .next) s1
   | some v=>wpAny (model prog w) A (letOwnedTupleGo target it v) (λ_ s2=>wpAny (model prog w) A (assign target env v) (λ_ s3 =>
     wpAny (model prog w) A (forIn ifs true λc r=>if r=true then do let ok <-isTrue c env (eval c env);pure (ForInStep.yield ok) else pure (ForInStep.yield r)) (λok s4 =>
      if ok=true then wpAny (model prog w) A (eval elt env) (λx s5 =>
       wpAny (model prog w) A (call (.builtin "list.append") [acc,x]) (λ_ s6=>∃m,m<n/\I m s6) (λ_ _=>False) s5) (λ_ _=>False) s4
      else ∃m,m<n/\I m s4) (λ_ _=>False) s3) (λ_ _=>False) s2) (λ_ _=>False) s1) (λ_ _=>False) s)
  (n:Nat) (h:I n s):codeAny (model prog w) A (.compLoop (.ListComp elt [⟨target,iter,ifs,0⟩] scope pos) 0 it acc env) R s:=by
 refine codeAny_loop rfl I (λn s hI=>?_) n h;show wpAny _ A ((compTurn (.ListComp elt [⟨target,iter,ifs,0⟩] scope pos) 0 it acc env).onRaise (λx=>do noteFrame x env;theTreesLotGoes x)) _ _ s;refine wpAny_noted ?_;rw[compTurn_list];have no:∀{E:A0},∀e s',(λ(_:Value) (_:Shared)=>False) e s'->E e s':=λ_ _ z=>False.elim z;refine Qa (wpAny_standAt (Qa (XV (turn n s hI) (λr s1 h1=>?_) no)))
 cases r with
 | none=>exact Qf h1
 | some v =>
 refine Qa (XV h1 (λ_ s2 h2=>?_) no);refine Qa (XV h2 (λ_ s3 h3=>Qa (XV h3 (λok s4 h4=>?_) no)) no)
 cases ok with
 | false=>exact Qf ⟨rfl,h4⟩
 | true =>
 exact Qa (Qa (XV h4 (λx s5 h5=>Qa (XV h5 (λ_ s6 h6=>Qf (Qf ⟨rfl,h6⟩)) no)) no))
def bB (tgs:List Str) (cap:List (Str × Nat)) (σ:St):St:=tgs.map (λ_=>none)++cap.map λc=>(σ[c.2]?).join
def gL (wi:TI) (g:TG) (tt:TT) (te:TE) (f:St->St):TE:=λσ H Q=>wi σ H λJ H1=>∀D,H1 D=none->∃W:Nat->Nat->Hp->List V->Prop,(∃m,W 0 m (upd H1 D (.lst [])) []) /\
 ∀i m H ys,W i m H ys->H D=some (.lst ys)/\((J.stop i H/\Q (.ref D) H)\/(J.go i H/\∀x H',J.yld i H x H'->g x (f σ) H' λσ2 H2=>wk (f σ) σ2/\tt σ2 H2 λb H3 =>
  if b=true then te σ2 H3 λv H4=>H4 D=some (.lst ys)/\ys.length<sizeLine/\∃m',m'<m/\W (i+1) m' (upd H4 D (.lst (ys++[v]))) (ys++[v])
  else ∃m',m'<m/\W (i+1) m' H3 ys))
structure BlockOk (X:Cx) (scope:Scope) (tgs:List Str) (cap:List (Str × Nat)):Prop where
 kind:scope.kind=.function
 nocell:(scope.names.all λy=>!(y.2==NameKind.cell))=true
 names:(scope.names.all λy=>!(y.2==NameKind.local) || (scope.names.lookup y.1==some .local))=true
 free:(scope.names.all λy=>!(y.2==NameKind.free) || (X.env.scope.names.lookup y.1==some .cell) || (X.env.scope.names.lookup y.1==some .free))=true
 caps:(cap.all λc=>decide (X.N[c.2]?=some c.1)&&(scope.names.lookup c.1==some .free)&&(decide (X.env.scope.names.lookup c.1=some .cell) || decide (X.env.scope.names.lookup c.1=some .free)))=true
 tgl:(tgs.all λx=>(scope.names.lookup x==some .local))=true
section
variable {X:Cx} {scope:Scope} {tgs:List Str} {cap:List (Str × Nat)}
theorem BlockOk.cellAt (B:BlockOk X scope tgs cap) (ok:X.Ok):∀y∈scope.names,y.2=.free->∃c,X.env.cells.lookup y.1=some c:=λy hy hk=>by
 have q:=QX.mp B.free y hy;rw[hk]at q;refine ok.has y.1 ?_;simp only[beq_self_eq_true,XZ,Bool.false_or,Bool.or_eq_true,beq_iff_eq]at q;exact q
theorem BlockOk.noc (B:BlockOk X scope tgs cap):∀y∈scope.names,y.2≠.cell:=λy hy hk=>by
 have q:=QX.mp B.nocell y hy;rw[hk]at q;simp at q
theorem BlockOk.locs (B:BlockOk X scope tgs cap):∀y∈scope.names,y.2=.local->scope.names.lookup y.1=some .local:=λy hy hk=>by
 have q:=QX.mp B.names y hy;rw[hk]at q;simpa using q
variable {pins:A1}
theorem Inv.enter {σ:St} {H:Hp} {s:Shared} {h1:Heap} {tk:Nat} {fp:A3} (B:BlockOk X scope tgs cap) (I:Inv X pins σ H s) (hfp:∀b∈fp,eE X pins H b) (hlt:∀b∈fp,b<s.heap.objs.size)
  (hns:h1.Ns s.heap.objs.size (λ_=>none)) (old:∀b o,s.heap.get? b=some o->h1.get? b=some o) :
  Inv (X.block (tgs++cap.map (·.1)) scope s.heap.objs.size s H fp) [] (bB tgs cap σ) H { s with heap:=h1,toks:=tk }:=by
 have cellsIn:∀x c,(cC X.env scope.names []).lookup x=some c->X.env.cells.lookup x=some c:=λx c e=>uQ e (B.cellAt I.ok)
 have kindIn:∀x,((relabel scope X.env).names.lookup x=some .cell\/(relabel scope X.env).names.lookup x=some .free)->(x,NameKind.free)∈scope.names:=λx hx=>by
  have go:∀k,(relabel scope X.env).names.lookup x=some k->(k=.cell\/k=.free)->(x,NameKind.free)∈scope.names:=λk hk hc=>by
   obtain⟨k',e1,e2⟩:=kj hk;have m:=dF e1;rcases e2 with e2|⟨e2,_⟩
   ·subst e2;rcases hc with z|z
    ·exact absurd z (B.noc _ m)
    subst z;exact m
   subst e2;exact m
  rcases hx with h|h
  ·exact go _ h (.inl rfl)
  exact go _ h (.inr rfl)
 have nocl:∀x c,X.env.cells.lookup x=some c->c≠s.heap.objs.size:=λx c e=>by
  obtain⟨v,q⟩:=I.cell x c e;exact QF q.lt
 refine⟨⟨I.ok.mod,?_,I.ok.glob,I.ok.blt,Qg _,λx y c e1 e2=>I.ok.inj x y c (cellsIn x c e1) (cellsIn y c e2),λx hx=>?_,λx c hf _=>absurd (show false=true from hf) Qr,I.ok.hd,I.ok.frames,.inl rfl,
  λb hb=>⟨QF (hlt b hb),λx c e=>?_⟩,I.bs,QQ I.ok.bsz I.sz,λb o e hb=>?_,λb hb hf=>?_,I.stack,I.stkFree⟩,
  rfl,I.bare,Un.kept old,⟨_,hns,λi x v h2 h3 h4=>?_⟩,λx c e=>?_,?_,λx c e=>I.freeC x c (cellsIn x c e),λp hp=>absurd (show p∈([]:A1) from hp) (by simp),I.hok.kept old,?_⟩
 ·exact B.kind
 ·exact qt (kindIn x hx)
 ·exact(hfp b hb).2.2.2.2.1 x c (cellsIn x c e)
 ·-- no object of the base is an iterator of ours
  rcases(hfp b hb).2.2.2.1 with z|z
  ·exact I.ok.noex b o e z
  have q:=I.ok.bs b o e;exact absurd (QO (Qt q.1) z) (X7 _)
 ·have hf':b∈frs X.stack:=hf;rcases Qj.mp (I.stkSub b hf') with z|z
  ·exact(hfp b hb).2.1 z
  exact(hfp b hb).2.2.1 z
 ·-- a name that is known: one of the captured ones
  have hi:tgs.length<=i:=by
   by_cases hl:i<tgs.length
   ·exfalso;unfold bB at h3;rw[QG (by simpa using hl),Qq]at h3
    cases e:tgs[i]? with
    | none=>rw[e]at h3;cases h3
    | some z=>rw[e]at h3;cases h3
   exact om2 hl
  unfold bB at h3;rw[QJ (by simpa using hi),Qd,Qq]at h3;have h2':(tgs++cap.map (·.1))[i]?=some x:=h2;rw[QJ hi,Qq]at h2'
  cases e:cap[i-tgs.length]? with
  | none=>rw[e]at h2';cases h2'
  | some c =>
  rw[e]at h2' h3;have hx:c.1=x:=by simpa using h2'
  have hv:(σ[c.2]?).join=some v:=by simpa using h3
  have hm:c∈cap:=Qh e;have q:=QX.mp B.caps c hm;simp only[Xr,decide_eq_true_eq,beq_iff_eq,Bool.or_eq_true]at q;obtain⟨⟨q1,q2⟩,q3⟩:=q
  have hσ:σ[c.2]?=some (some v):=by
   cases z:σ[c.2]? with
   | none=>rw[z]at hv;cases hv
   | some o =>
   rw[z]at hv;have:o=some v:=by simpa using hv
   rw[this]
  obtain⟨m,_,hl⟩:=I.loc
  obtain⟨u,r,l⟩:=hl c.2 c.1 v q1 hσ (by
   rcases q3 with z|z
   ·exact .inr (.inl z)
   exact .inr (.inr z))
  subst hx;refine⟨u,r,.inr ⟨km q2,?_⟩⟩
  have nl:¬X.env.kindOf c.1=some .local:=λz=>by
   rcases q3 with y|y
   ·have:X.env.kindOf c.1=some .cell:=y;rw[this]at z;cases z
   have:X.env.kindOf c.1=some .free:=y;rw[this]at z;cases z
  rcases l with⟨l1,_⟩|⟨_,d,l2,l3⟩
  ·exact absurd l1 nl
  obtain⟨d',e'⟩:=qt (env:=X.env) (dF q2);have:d=d':=QC (l2.symm.trans (cellsIn _ _ e'));subst this;obtain⟨oc,ho,hd⟩:=l3;exact⟨d,e',oc,old d oc ho,hd⟩
 ·obtain⟨v,oc,ho,hd⟩:=I.cell x c (cellsIn x c e);exact⟨v,oc,old c oc ho,hd⟩
 ·exact I.hok.fresh (Qg _)
 unfold bB;show _=(tgs++cap.map (·.1)).length;simp
theorem Inv.leave {σ σ':St} {H H':Hp} {s s':Shared} {h2:Heap} {fp:A3} {N:List Str} (I:Inv X pins σ H s) (hfp:∀b∈fp,eE X pins H b)
  (J:Inv (X.block N scope s.heap.objs.size s H fp) [] σ' H' s') (hs:Heap.SameBut s.heap.objs.size s'.heap h2):Inv X pins σ H' { s' with heap:=h2 }:=by
 have u:Un (frs X.stack) fp H H' s.heap s'.heap:=J.base;have ne:∀b o,s.heap.get? b=some o->b≠s.heap.objs.size:=λb o e=>QF (Qt e);have hf:H' s.heap.objs.size=none:=J.free;have k:∀b o,b≠s.heap.objs.size->s'.heap.get? b=some o->h2.get? b=some o:=λb o hb e=>(hs.2 b hb).trans e
 have u2:Un (frs X.stack) fp H H' s.heap h2 :=
  ⟨λb o e n h1 h3=>k b o (ne b o e) (u.keep b o e n h1 h3),λb o e n h1 h3=>let ⟨sl,q⟩:=u.slot b o e n h1 h3;⟨sl,k b _ (ne b o e) q⟩,u.free,λb o e h3=>let ⟨o',q⟩:=u.there b o e h3;⟨o',k b o' (ne b o e) q⟩,u.tups,u.frzs,u.tbls⟩
 have hok:HOk X.prog X.w H' h2:=λb ob e=>(J.hok b ob e).stay (λc v hc q=>k c v (by
  rcases hc with z|z
  ·subst z;intro y;rw[y,hf]at e;cases e
  intro y
  rw[y,hf]at z;cases z) q) (λ_ q=>q) λ_ _ q=>q
 exact Inv.call' I (s':={ s' with heap:=h2 }) J.os u2 hok J.bare λb hb=>by
  obtain⟨f0,f1,f2,f3,f4,f5⟩:=hfp b hb;exact⟨f3,f1,f4,f5⟩
theorem jt {elt tg iter:Expr} {ifs:List Expr} {pos:Pos} {wi:TI} {g:TG} {tt:TT} {te:TE} (hc:X.calm=true) (B:BlockOk X scope tgs cap) (hi:PI X tg iter wi)
  (hg:∀C s H fp,PG (X.block (tgs++cap.map (·.1)) scope C s H fp) tg g) (ht:∀C s H fp,wD (X.block (tgs++cap.map (·.1)) scope C s H fp) ifs tt) (he:∀C s H fp,PE (X.block (tgs++cap.map (·.1)) scope C s H fp) elt te)
  (hs:∀x,foldedSetIterable iter X.env x=pure x:=by intro _;rfl):PE X (.ListComp elt [⟨tg,iter,ifs,0⟩] scope pos) (gL wi g tt te (bB tgs cap)):=by
 intro pins s σ H Q I h;rw[eval_ListComp];refine wpAny_comprehension_free (use:=none) rfl hs (iP (B.cellAt I.ok)) B.kind B.locs (thn (hi pins s σ H _ I h) λv s1 h1=>thn h1 λitv s2 h2=>?_);obtain⟨it,fp,tn,J,H2,e,I2,T,st2,f2,q⟩:=h2;subst e;have lt2:∀b∈fp,b<s2.heap.objs.size:=λb hb=>let ⟨o,e,_⟩:=T.obj _ _ st2 b hb;Qt e;have hD:H2 s2.heap.objs.size=none:=I2.hok.fresh (Qg _);obtain⟨W,⟨m0,w0⟩,turn⟩:=q s2.heap.objs.size hD;refine XM ?_;have I3:Inv X pins σ (upd H2 s2.heap.objs.size (.lst [])) { s2 with heap:=s2.heap.push { cls:=.type "list", dict:=none,data:=.seq ([]:List Value).toArray } }:=I2.lnew (t':=s2.toks) (ys:=[]) (its:=[]) .nil (QT _);have st3:tn 0 (s2.heap.push { cls:=.type "list", dict:=none,data:=.seq ([]:List Value).toArray }):=T.keep _ _ _ st2 λb _ o e=>Qe _ e;have nD:∀b∈fp,b≠s2.heap.objs.size:=λb hb=>QF (lt2 b hb);have f3:∀b∈fp,eE X pins (upd H2 s2.heap.objs.size (.lst [])) b:=λb hb=>⟨by rw[ah (nD b hb)];exact(f2 b hb).1,(f2 b hb).2⟩;generalize hs3:({ s2 with heap:=s2.heap.push { cls:=.type "list", dict:=none,data:=.seq ([]:List Value).toArray } }:Shared)=s3 at I3 st3 ⊢;have st3':tn 0 s3.heap:=by rw[<-hs3];exact st3
 have lt3:∀b∈fp,b<s3.heap.objs.size:=λb hb=>let ⟨o,e,_⟩:=T.obj _ _ st3' b hb;Qt e;generalize hH3:upd H2 s2.heap.objs.size (.lst [])=H3 at I3 f3 w0;generalize s2.heap.objs.size=D at *;refine wpAny_newFunctionEnv B.noc (by intro y hy;simp at hy) (λh1 hns hsb=>?_) B.kind;have old:∀b o,s3.heap.get? b=some o->h1.get? b=some o:=λb o e=>hsb.extBut b o (QF (Qt e)) (Qe _ e);have I4:=Inv.enter (tk:=s3.toks+([]:List (Str × Value)).length) (h1:=h1) B I3 f3 lt3 hns old;have st4:tn 0 h1:=T.keep _ _ _ st3' λb _ o e=>old b o e
 have fpB:∀{H':Hp},(∀b∈fp,H' b=none)->∀b∈fp,eE (X.block (tgs++cap.map (·.1)) scope s3.heap.objs.size s3 H3 fp) [] H' b:=λ{H'} hn b hb =>
  ⟨hn b hb,QF (lt3 b hb),I4.ok.exfs b hb,.inl hb,λx c e=>(I4.ok.exf b hb).2 x c e,λp hp=>absurd (show p∈([]:A1) from hp) (by simp)⟩
 have loop:codeAny (model X.prog X.w) X.A (.compLoop (.ListComp elt [⟨tg,iter,ifs,0⟩] scope pos) 0 (.ref it) (.ref D) (compEnvC scope (cC X.env scope.names []) s3.heap.objs.size X.env))
   (compPost (model X.prog X.w) X.A X.xe none (EP X pins σ Q) (.ref D) s3.heap.objs.size) { s3 with heap:=h1,toks:=s3.toks+([]:List (Str × Value)).length }:=by
  refine fV (λn s'=>∃i H' ys,Inv (X.block (tgs++cap.map (·.1)) scope s3.heap.objs.size s3 H3 fp) [] (bB tgs cap σ) H' s'/\tn i s'.heap/\(∀b∈fp,H' b=none)/\W i n H' ys) ?_ m0 ⟨0,H3,[],I4,st4,λb hb=>(f3 b hb).1,w0⟩;rintro n s5 ⟨i,H5,ys,I5,st5,fr5,w5⟩;obtain⟨hl,ht5⟩:=turn i n H5 ys w5;rcases ht5 with⟨stop,qd⟩|⟨go,step⟩
  ·refine thn (T.done (X.block (tgs++cap.map (·.1)) scope s3.heap.objs.size s3 H3 fp) rfl rfl rfl hc i [] s5 _ H5 _ I5 (fpB fr5) st5 stop) λr s6 ⟨hr,I6⟩=>?_;subst hr;obtain⟨m6,n6,_⟩:=I6.loc;exact⟨m6,n6,λh' hs'=>⟨.ref D,H5,Inv.leave I3 f3 I6 hs',rfl,qd⟩⟩
  refine thn (T.item (X.block (tgs++cap.map (·.1)) scope s3.heap.objs.size s3 H3 fp) rfl rfl rfl hc i [] s5 _ H5 _ I5 (fpB fr5) st5 go) λr s6 ⟨u,hr,h6⟩=>?_;subst hr;refine thn h6 λ_ s7 ⟨x,H7,I7,r7,y7,st7,fr7⟩=>?_;have I7':=I7.pinned (fpB fr7) (T.obj _ _ st7)
  have again:∀{σ8:St} {H8:Hp} {s8:Shared} {ys8:List V},Inv (X.block (tgs++cap.map (·.1)) scope s3.heap.objs.size s3 H3 fp) ([]++f8 fp s7.heap) σ8 H8 s8->wk (bB tgs cap σ) σ8->(∃m',m'<n/\W (i+1) m' H8 ys8) ->
    ∃m,m<n/\∃i H' ys,Inv (X.block (tgs++cap.map (·.1)) scope s3.heap.objs.size s3 H3 fp) [] (bB tgs cap σ) H' s8/\tn i s8.heap/\(∀b∈fp,H' b=none)/\W i m H' ys:=λ{σ8 H8 s8 ys8} I8 k8 ⟨m',hm,w8⟩=>by
   refine⟨m',hm,i+1,H8,ys8,I8.unpinned.weak (jY k8) (jZ k8),T.keep _ _ _ st7 λb hb o e=>(I8.pin (b,o) (QI _ (QI _ (cF hb e)))).1,λb hb=>?_,w8⟩;obtain⟨o,e,d⟩:=T.obj _ _ st7 b hb;exact(I8.pin (b,o) (QI _ (QI _ (cF hb e)))).2.1
  refine thn (hg _ _ _ _ _ s7 _ H7 x u _ I7' r7 (step x H7 y7)) λ_ s8 ⟨σ8,H8,I8,k8,q8⟩=>?_;refine thn (ht _ _ _ _ _ s8 σ8 H8 _ I8 q8) λok s9 ⟨H9,I9,q9⟩=>?_
  cases ok with
  | false =>
   rw[Qn Qr]at q9 ⊢;exact again I9 k8 q9
  | true =>
  rw[Qs rfl]at q9 ⊢;refine thn (he _ _ _ _ _ s9 σ8 H9 _ I9 q9) λy sA ⟨yv,HA,IA,rA,hA,zA,qA⟩=>?_;exact thn (bn _ sA σ8 HA (.ref D) [yv] (.ref D) [y] (λv H'=>v=.non/\∃m',m'<n/\W (i+1) m' H' (ys++[yv])) IA rfl (.cons rA .nil) ⟨D,ys,yv,rfl,rfl,hA,zA,rfl,qA⟩) λ_ sB ⟨_,HB,IB,_,_,qB⟩=>again IB k8 qB
 exact codeAny_compStart_list loop (T.self _ 0 _ _ _ st4 loop)
theorem ju {X:Cx} {scope:Scope} {elt iter:Expr} {p pos:Pos} {wi:TI} {te:TE} (x:Str) (cap:List (Str × Nat)) (hi:PI X (.Name x p) iter wi) (he:∀C s H fp,PE (X.block ([x]++cap.map (·.1)) scope C s H fp) elt te) (hc:X.calm=true:=by rfl) (B:BlockOk X scope [x] cap:=by exact⟨rfl,rfl,rfl,rfl,rfl,rfl⟩) (hN:([x]++cap.map (·.1)).Nodup:=by decide +kernel) (hg:([x]++cap.map (·.1)).Nodup->∀C s H fp,PG (X.block ([x]++cap.map (·.1)) scope C s H fp) (.Name x p) (dv 0):=by intro h _ _ _ _;exact bI (i:=0) h rfl (by z_go)) (hs:∀x,foldedSetIterable iter X.env x=pure x:=by intro _;rfl):PE X (.ListComp elt [⟨.Name x p,iter,[],0⟩] scope pos) (gL wi (dv 0) lF te (bB [x] cap)):=jt hc B hi (hg hN) (λ_ _ _ _=>d4) he hs
end
def Itf (n:Nat) (f:Nat->V):It:=⟨λi _=>i<n,λi H x H'=>H'=H/\x=f i,λi _=>i=n⟩
def jm (z:Str) (i:Nat):V:=.str ⟨#[z.cps.getD i 0]⟩
section
variable {X:Cx} {x:Str} {px:Pos}
def Ag (tl:TE):TI:=λσ H R=>tl σ H λv H1=>∃z:Str,v=.str z/\R (Itf z.cps.size (jm z)) H1
end
section
variable {X:Cx}
def yT:V->Option Int->Option Int->Hp->VK->Prop:=λx lo hi H Q=>∃z:Str,x=.str z/\z.length<=sizeLine/\Q (.str (Txt.slice z lo hi)) H
theorem gS:SlR X yT:=by
 intro pins s σ H x v vl vu lo hi sl Q I rx hs pl pu h;obtain⟨z,e,hz,q⟩:=h;subst e;obtain⟨t,e⟩:=rx;subst e;refine⟨"str", _,F.slot_str_getitem.lookup,typeIs_str _ _ _,?_⟩;have fin:∀(t':Tok) (k:Nat),EP X pins σ Q (.str (Txt.slice z lo hi) t') { s with toks:=k }:=λt' k=>⟨.str _,H,I.tok k,⟨t',rfl⟩,q⟩
 cases pl with
 | none =>
  cases pu with
  | none=>exact wpAny_getItem_str_slice (l:=none) (u:=none) (st:=none) hs rfl (post_val_or_str ⟨QQ (Txt.slice_le z _ _) hz,fin⟩)
  | int j uj=>exact wpAny_getItem_str_slice (l:=none) (u:=some (j,uj)) (st:=none) hs rfl (post_val_or_str ⟨QQ (Txt.slice_le z _ _) hz,fin⟩)
 | int i ui =>
 cases pu with
 | none=>exact wpAny_getItem_str_slice (l:=some (i,ui)) (u:=none) (st:=none) hs rfl (post_val_or_str ⟨QQ (Txt.slice_le z _ _) hz,fin⟩)
 | int j uj=>exact wpAny_getItem_str_slice (l:=some (i,ui)) (u:=some (j,uj)) (st:=none) hs rfl (post_val_or_str ⟨QQ (Txt.slice_le z _ _) hz,fin⟩)
theorem fb:∀{ys:List Str} {us:List Value},aQ (ys.map V.str) us->StrsAre us ys
 | [],_,r=>by
  rw[List.map_nil]at r;cases r;exact .nil
 | y::ys,_,r=>by
  rw[Qx]at r
  cases r with
  | cons r1 r2 =>
  obtain⟨t,e⟩:=r1;subst e;exact .cons y t (fb r2)
def yW (K:PySem.W.Frag):V->List V->Hp->VK->Prop:=λx vs H Q=>∃(z:Str) (l:Addr) (ys:List Str),x=.str z/\vs=[.ref l]/\SqL K H l (ys.map V.str)/\(ys.map (·.length)).sum+ys.length*z.length<=16777216/\Q (.str (Txt.join z ys)) H
theorem vQ:MtR X "str.join" (yW X.K):=by
 intro pins s σ H x vs v us Q I rx rv h;obtain⟨z,l,ys,e1,e2,hl,hz,q⟩:=h;subst e1 e2;obtain⟨t,e⟩:=rx;subst e;obtain⟨u,e,ru⟩:=rv.one;subst e;cases ru;obtain⟨its,r,pl,_⟩:=I.list hl;exact join_list pl.isList (by simpa using fb r) hz λt' k=>⟨.str _,H,I.tok k,⟨t',rfl⟩,q⟩
theorem rq (ys:List Str):(Txt.join Str.empty ys).cps.toList=(ys.map (·.cps.toList)).flatten:=by
 unfold Txt.join;rw[PySem.StrLaws.glued_eq_join]
 induction ys with
 | nil=>rfl
 | cons y r ih =>
 cases r with
 | nil=>simp[Str.join]
 | cons y2 r2 =>
 show (y++Str.empty++Str.join Str.empty (y2::r2)).cps.toList=_;rw[Qx,List.flatten_cons,<-ih];show (y.cps++Str.empty.cps++(Str.join Str.empty (y2::r2)).cps).toList=_;simp[Str.empty]
end
inductive EqD (K:PySem.W.Frag) (H:Hp):Nat->V->V->Bool->Prop
 | flat {n:Nat} {x y:V}:cr x=true->cr y=true->EqD K H n x y (eqV x y)
 | same {n:Nat} {a:Addr}:EqD K H n (.ref a) (.ref a) true
 | lists {n:Nat} {a b:Addr} {xs ys:List V} {e:Nat->Bool}:SqL K H a xs->SqL K H b ys->xs.length=ys.length->(∀(j:Nat) x y,xs[j]?=some x->ys[j]?=some y->EqD K H n x y (e j))->a≠b ->
   EqD K H (n+1) (.ref a) (.ref b) ((List.range xs.length).all e)
 | tups {n:Nat} {a b:Addr} {xs ys:List V} {e:Nat->Bool}:SqT K H a xs->SqT K H b ys->(∀(j:Nat) x y,xs[j]?=some x->ys[j]?=some y->EqD K H n x y (e j))->a≠b ->
   EqD K H (n+1) (.ref a) (.ref b) ((List.range (min xs.length ys.length)).all e&&xs.length==ys.length)
theorem EqD.at {X:Cx} {pins:A1} {σ:St} {H:Hp} {s:Shared} (I:Inv X pins σ H s) {n:Nat} {x y:V} {b:Bool} (h:EqD X.K H n x y b) :
  ∀{A:Around} {u v:Value},A.units+n<cLine->aN x u->aN y v->SeqAt.EqAt A s u v b:=by
 induction h with
 | flat fx fy=>intro A u v _ rx ry;exact uF rx ry fx fy
 | same =>
  intro A u v _ rx ry;cases rx;cases ry;exact SeqAt.EqAt.same _
 | @lists n a c xs ys e ha hb hl hi hne ih =>
  intro A u v hu rx ry;cases rx;cases ry;obtain⟨its,r1,p1,_⟩:=I.list ha;obtain⟨its2,r2,p2,_⟩:=I.list hb;have l1:=r1.length;have l2:=r2.length;refine SeqAt.EqAt.of_refs hne ?_
  have q:=SeqAt.RcAt.lists (A:=A) (e:=e) p1.isList p2.isList (by rw[Qk,Qk];exact om7 hl l1 l2) (by exact om8 hu) λj h1 h2=>by
   rw[Qk]at h1 h2;have e1:xs[j]?=some xs[j]:=Qb (by exact om9 hl l1 l2 h1);have e2:ys[j]?=some ys[j]:=Qb (by exact Ad hl l1 l2 h1);obtain⟨w1,g1,rr1⟩:=r1.get e1;obtain⟨w2,g2,rr2⟩:=r2.get e2
   have g1':its.toArray[j]=w1:=by
    have:=(Qc.mp g1).2;simpa using this
   have g2':its2.toArray[j]=w2:=by
    have:=(Qc.mp g2).2;simpa using this
   rw[g1',g2'];exact ih j _ _ e1 e2 (by show A.units+1+n<cLine;exact zn hu) rr1 rr2
  rw[Qk,<-l1]at q;exact q
 | @tups n a c xs ys e ha hb hi hne ih =>
 intro A u v hu rx ry;cases rx;cases ry;obtain⟨its,r1,p1,_⟩:=I.tuple ha;obtain⟨its2,r2,p2,_⟩:=I.tuple hb;have l1:=r1.length;have l2:=r2.length;refine SeqAt.EqAt.of_refs hne ?_
 have q:=SeqAt.RcAt.tuples (A:=A) (e:=e) (show s.heap.IsTuple a its.toArray from p1) (show s.heap.IsTuple c its2.toArray from p2) (by exact om8 hu) λj h1 h2=>by
  rw[Qk]at h1 h2;have e1:xs[j]?=some xs[j]:=Qb (by exact tM l1 h1);have e2:ys[j]?=some ys[j]:=Qb (by exact tM l2 h2);obtain⟨w1,g1,rr1⟩:=r1.get e1;obtain⟨w2,g2,rr2⟩:=r2.get e2
  have g1':its.toArray[j]=w1:=by
   have:=(Qc.mp g1).2;simpa using this
  have g2':its2.toArray[j]=w2:=by
   have:=(Qc.mp g2).2;simpa using this
  rw[g1',g2'];exact ih j _ _ e1 e2 (by show A.units+1+n<cLine;exact zn hu) rr1 rr2
 rw[Qk,Qk,<-l1,<-l2]at q;exact q
section
variable {X:Cx}
theorem EqD.items {pins:A1} {σ:St} {H:Hp} {s:Shared} (I:Inv X pins σ H s) {n:Nat} {A:Around} (hu:A.units+1+n<cLine) {xs ys:List V} {its its2:List Value} (r1:aQ xs its) (r2:aQ ys its2) {e:Nat->Bool}
  (h:∀(j:Nat) x y,xs[j]?=some x->ys[j]?=some y->EqD X.K H n x y (e j)) (j:Nat) (h1:j<its.toArray.size) (h2:j<its2.toArray.size):SeqAt.EqAt A.in1 s its.toArray[j] its2.toArray[j] (e j):=by
 have l1:=r1.length;have l2:=r2.length;rw[Qk]at h1 h2;have e1:xs[j]?=some xs[j]:=Qb (by exact zm h1 l1);have e2:ys[j]?=some ys[j]:=Qb (by exact zm h2 l2);obtain⟨w1,g1,rr1⟩:=r1.get e1;obtain⟨w2,g2,rr2⟩:=r2.get e2
 have g1':its.toArray[j]=w1:=by
  have:=(Qc.mp g1).2;simpa using this
 have g2':its2.toArray[j]=w2:=by
  have:=(Qc.mp g2).2;simpa using this
 rw[g1',g2'];exact EqD.at I (h j _ _ e1 e2) (by show A.units+1+n<cLine;exact hu) rr1 rr2
def g_ (K:PySem.W.Frag) (neg:Bool):R2:=λx y H Q=>∃a b xs ys e,x=.ref a/\y=.ref b/\SqL K H a xs/\SqL K H b ys/\(∀(j:Nat) x y,xs[j]?=some x->ys[j]?=some y->EqD K H 8 x y (e j)) /\
 Q (.bl (if neg then !(xs.length==ys.length&&(List.range xs.length).all e) else (xs.length==ys.length&&(List.range xs.length).all e))) H
def sX (K:PySem.W.Frag) (neg:Bool):R2:=λx y H Q=>∃a b xs ys e,x=.ref a/\y=.ref b/\SqT K H a xs/\SqT K H b ys/\(∀(j:Nat) x y,xs[j]?=some x->ys[j]?=some y->EqD K H 8 x y (e j)) /\
 Q (.bl (if neg then !((List.range (min xs.length ys.length)).all e&&xs.length==ys.length) else ((List.range (min xs.length ys.length)).all e&&xs.length==ys.length))) H
theorem ii (hu:X.A.units+64<cLine):OpR X (compareOp .Eq) (g_ X.K false):=by
 intro pins s σ H x y v u Q I rx ry h;obtain⟨a,b,xs,ys,e,e1,e2,ha,hb,hi,q⟩:=h;subst e1 e2;cases rx;cases ry;obtain⟨its,r1,p1,_⟩:=I.list ha;obtain⟨its2,r2,p2,_⟩:=I.list hb;have l1:=r1.length;have l2:=r2.length;by_cases hl:xs.length=ys.length
 ·refine SeqAt.eq_listAt (e:=e) p1.isList p2.isList (by rw[Qk,Qk];exact zk l1 l2 hl) (by exact qP hu) (EqD.items I (by exact vA hu) r1 r2 hi) ⟨.bl _,H,I,rfl,?_⟩;rw[Qk,<-l1];have:(xs.length==ys.length)=true:=by simpa using hl
  rw[this]at q;exact q
 refine SeqAt.eq_list_lengthsAt p1.isList p2.isList (by rw[Qk,Qk,<-l1,<-l2];simpa using hl) (by exact qP hu) ⟨.bl _,H,I,rfl,?_⟩;have:(xs.length==ys.length)=false:=by simpa using hl
 rw[this]at q;exact q
theorem ig (hu:X.A.units+64<cLine):OpR X (compareOp .NotEq) (g_ X.K true):=by
 intro pins s σ H x y v u Q I rx ry h;obtain⟨a,b,xs,ys,e,e1,e2,ha,hb,hi,q⟩:=h;subst e1 e2;cases rx;cases ry;obtain⟨its,r1,p1,_⟩:=I.list ha;obtain⟨its2,r2,p2,_⟩:=I.list hb;have l1:=r1.length;have l2:=r2.length;by_cases hl:xs.length=ys.length
 ·refine SeqAt.RcNeAt.lists (e:=e) p1.isList p2.isList (by rw[Qk,Qk];exact zk l1 l2 hl) (by exact qP hu) (EqD.items I (by exact vA hu) r1 r2 hi) _ _ _ _ ⟨.bl _,H,I,rfl,?_⟩;rw[Qk,<-l1];have:(xs.length==ys.length)=true:=by simpa using hl
  rw[this]at q;exact q
 refine SeqAt.RcNeAt.lists_lengths p1.isList p2.isList (by rw[Qk,Qk,<-l1,<-l2];simpa using hl) (by exact qP hu) _ _ _ _ ⟨.bl _,H,I,rfl,?_⟩;have:(xs.length==ys.length)=false:=by simpa using hl
 rw[this]at q;exact q
theorem kB (hu:X.A.units+64<cLine):OpR X (compareOp .Eq) (sX X.K false):=by
 intro pins s σ H x y v u Q I rx ry h;obtain⟨a,b,xs,ys,e,e1,e2,ha,hb,hi,q⟩:=h;subst e1 e2;cases rx;cases ry;obtain⟨its,r1,p1,_⟩:=I.tuple ha;obtain⟨its2,r2,p2,_⟩:=I.tuple hb;have l1:=r1.length;have l2:=r2.length;refine SeqAt.eq_tupleAt (e:=e) (show s.heap.IsTuple a its.toArray from p1) (show s.heap.IsTuple b its2.toArray from p2) (by exact qP hu) (EqD.items I (by exact vA hu) r1 r2 hi) ⟨.bl _,H,I,rfl,?_⟩;rw[Qk,Qk,<-l1,<-l2];exact q
theorem xS (hu:X.A.units+64<cLine):OpR X (compareOp .NotEq) (sX X.K true):=by
 intro pins s σ H x y v u Q I rx ry h;obtain⟨a,b,xs,ys,e,e1,e2,ha,hb,hi,q⟩:=h;subst e1 e2;cases rx;cases ry;obtain⟨its,r1,p1,_⟩:=I.tuple ha;obtain⟨its2,r2,p2,_⟩:=I.tuple hb;have l1:=r1.length;have l2:=r2.length;refine SeqAt.RcNeAt.tuples (e:=e) (show s.heap.IsTuple a its.toArray from p1) (show s.heap.IsTuple b its2.toArray from p2) (by exact qP hu) (EqD.items I (by exact vA hu) r1 r2 hi) _ _ _ _ ⟨.bl _,H,I,rfl,?_⟩;rw[Qk,Qk,<-l1,<-l2];exact q
end
section
variable {X:Cx}
theorem rL (bs:List Bool):(List.range bs.length).all (λi=>bs.getD i false)=bs.all id:=by
 rw[X1];simp only[QX,QR]
 constructor
 ·intro h x hx;obtain⟨i,hi,e⟩:=List.mem_iff_getElem.mp hx;have q:=h i hi;rw[Qo,Qb hi,Option.getD_some,e]at q;exact q
 intro h i hi;rw[Qo,Qb hi,Option.getD_some];exact h _ (QW hi)
theorem uR (hc:X.calm=true):dR X (.builtin "all") (λxs H Q=>∃(l:Addr) (bs:List Bool),xs=[.ref l]/\SqL X.K H l (bs.map V.bl)/\Q (.bl (bs.all id)) H):=by
 intro pins s σ H xs us Q I r h;obtain⟨l,bs,e,hl,q⟩:=h;subst e;obtain⟨u,e,ru⟩:=dh r;subst e;cases ru;obtain⟨its,rv,pl,hz⟩:=I.list hl;have hlen:=rv.length;rw[Qd]at hlen
 have ne:l≠s.heap.objs.size:=by
  obtain⟨o,ho,_⟩:=pl.isList;exact QF (Qt ho)
 refine call_all_walk (wpAny_pyIter_list pl.isList ?_);refine⟨s.heap.objs.size,_,_,_,_,_,(λi=>bs.getD i false),rfl,Walks.list (show X.A.in1.handled=none from I.ok.hd hc) s.heap.objs.size l ne its.toArray,⟨⟨_,Qy _ rfl,rfl,rfl⟩,pl.isList.push _⟩,?_,λh' tk hk=>?_⟩
 ·intro i v s' Q' E' hP hQ;have hP':its[i]?=some v:=by simpa using hP
  have hi:i<bs.length:=by
   have:=(Qc.mp hP').1;exact tM hlen this
  have e1:(bs.map V.bl)[i]?=some (.bl (bs.getD i false)):=by
   rw[Qq,Qb hi,Qo,Qb hi];rfl
  obtain⟨u,hu,ru⟩:=rv.get e1;rw[hP']at hu;cases hu;cases ru;exact wpAny_truthy_bool hQ
 have hs:its.toArray.size=bs.length:=by rw[Qk];exact hlen.symm
 rw[hs,rL]
 exact⟨.bl _,H,I.kept λb o e=>hk b o (by
  have:=Qt e;simp only[Qv]
  exact QF this) (Qe _ e),rfl,q⟩
abbrev jg (K:PySem.W.Frag) (T:Addr) (D:List (Str × KTD.Dat)):Prop:=KTD.tabLook (KTD.datLooks λa=>K.lookup a) (λa=>K.lookup a) T D=true
theorem nP:OpR X (binaryOp .Mult) (λx y H Q=>∃z n,x=.str z/\y=.int n/\MulOk z n/\Q (.str (Txt.mul z n)) H):=by
 intro pins s σ H x y v u Q I rx ry h;obtain⟨z,n,e1,e2,hm,q⟩:=h;subst e1 e2;obtain⟨t,e⟩:=rx;subst e;obtain⟨t',e⟩:=ry;subst e;exact SB.mul hm λt' k=>⟨.str _,H,I.tok k,⟨t',rfl⟩,q⟩
end
theorem Inv.turned2 {pins:A1} {σ:St} {s:Shared} {h':Heap} {t':Nat} {it:Addr} {o:HO} (I:Inv X pins σ H s) (k:∀b o,b≠e->b≠it->s.heap.get? b=some o->h'.get? b=some o)
  (f1:eE X pins H e) (f2:eE X pins H it) (hT:s.heap.objs.size<=T) (new:bp X.prog X.w (upd H T o) h' T o):Inv X pins σ (upd H T o) { s with heap:=h',toks:=t' }:=by
 have hn:H T=none:=I.hok.fresh hT;have nT:∀b u,s.heap.get? b=some u->b≠T:=λb u q=>QF (QO (Qt q) hT);have n1:∀b u,H b=some u->b≠e:=λb u q z=>by rw[z,f1.1]at q;cases q
 have n2:∀b u,H b=some u->b≠it:=λb u q z=>by rw[z,f2.1]at q;cases q
 have kk:∀b u,b∉[e,it]->s.heap.get? b=some u->h'.get? b=some u:=λb u hc q=>k b u (λz=>hc (by simp[z])) (λz=>hc (by simp[z])) q
 refine I.step (g':=s.gens) (d':=s.drawn) (ch:=[e,it]) (λb hb=>?_) (λb u _ _ hc q _=>kk b u hc q) (λb u _ _ hc q _=>⟨u.slots,kk b u hc q⟩) (λb u _ q n=>by rw[ah (nT b u q)];exact n)
  (λb u hc q=>⟨u,kk b u hc q⟩) (λb xs q=>by rw[ah (aq q hn)];exact q) (λb u xs q=>by rw[ah (aq q hn)];exact q) (λb ps q=>⟨#[],by rw[ah (aq q hn),q];simp⟩) (λm hm=>?_) (λb u q=>?_) I.bare
 ·have z:b=e\/b=it:=by simpa using hb
  rcases z with z|z
  ·subst z;obtain⟨_,a2,_,a4,a5,a6⟩:=f1;exact⟨a4,a2,a5,a6⟩
  subst z;obtain⟨_,a2,_,a4,a5,a6⟩:=f2;exact⟨a4,a2,a5,a6⟩
 ·obtain⟨ob,es,ep,ho,r⟩:=hm;exact⟨ob,es,ep,k _ ob (Ne.symm f1.2.1) (Ne.symm f2.2.1) ho,r⟩
 by_cases hb:b=T
 ·subst hb;rw[ag]at q;cases q;exact new
 rw[ah hb]at q;refine(I.hok b u q).stay (λc v hc z=>k c v ?_ ?_ z) (λc z=>by rw[ah (aq z hn)];exact z) λc xs z=>by rw[ah (aq z hn)];exact z
 ·rcases hc with z|z
  ·rw[z];exact n1 b u q
  exact n1 c _ z
 rcases hc with z|z
 ·rw[z];exact n2 b u q
 exact n2 c _ z
noncomputable def Ite (K:PySem.W.Frag) (a:Addr):It :=
 ⟨λi H=>∃xs x,SqL K H a xs/\xs[i]?=some x,λi H x H'=>∃T v,H T=none/\x=.ref T/\H'=upd H T (.tup [.int (i:Nat),v])/\∀xs,SqL K H a xs->xs[i]?=some v,λi H=>∃xs,SqL K H a xs/\xs.length<=i⟩
theorem qE {P:Program} {w:World} {K:PySem.W.Frag} {elts:List Expr} {k:Nat} {pos:Pos} (a e it:Addr) (hne:e≠it) :
  Turn P w K (.Tuple elts k pos) (Ite K a) [e,it] e (λi h=>(∃old,IsEnum h e it (i:Nat) old)/\h.IsListIter it a i) where
 mem:=by simp
 obj:=λi h st b hb=>by
  obtain⟨⟨old,he⟩,o,ho,hc,hd⟩:=st;have z:b=e\/b=it:=by simpa using hb
  rcases z with z|z
  ·subst z
   exact⟨_,he,λv q=>by
    have q':Data.fields _=Data.cell v:=q
    cases q'⟩
  subst z;exact⟨o,ho,λv q=>by rw[hd]at q;cases q⟩
 keep:=λi h h' st kk=>by
  obtain⟨⟨old,he⟩,hl⟩:=st;exact⟨⟨old,kk e (by simp) _ he⟩,hl.at λo q=>kk it (by simp) o q⟩
 item:=by
  intro X hP hw hK hc i pins s σ H E I hf st hg;subst hP hw hK;obtain⟨xs,x,hq,hx⟩:=hg;obtain⟨its,rv,p,hz⟩:=I.list hq;obtain⟨u,hu,ru⟩:=rv.get hx;obtain⟨⟨old,he⟩,hl⟩:=st;have f1:=hf e (by simp);have f2:=hf it (by simp);refine wpAny_pyNext_enum_item he hl p.isList (x:=u) (by simpa using hu) hne λh1 a1 a2 a3 a4 a5=>⟨_,rfl,?_⟩;refine wpAny_letOwnedTupleGo_enum a1 λh2 b1 b2=>?_
  have nTe:s.heap.objs.size≠e:=λz=>by
   have q:=Qt (show s.heap.get? e=some _ from he);rw[<-z]at q;exact X7 _ q
  have keep2:∀b o,b≠e->b≠it->s.heap.get? b=some o->h2.get? b=some o:=λb o n1 n2 q=>b2.extBut b o n1 (a5 b o n1 n2 q);have tup2:h2.get? s.heap.objs.size=some { cls:=.type "tuple", data:=.seq #[.int i s.toks,u] }:=b2.extBut _ _ nTe a3
  have I2:Inv X pins σ (upd H s.heap.objs.size (.tup [.int (i:Nat),x])) { s with heap:=h2,toks:=s.toks+1 } :=
   I.turned2 keep2 f1 f2 (Qg _) ⟨(by show 2<=sizeLine;decide),[.int i s.toks,u],.cons ⟨_,rfl⟩ (.cons ru .nil),⟨_,tup2,rfl,_,rfl⟩⟩
  refine⟨.ref s.heap.objs.size,_,I2,rfl,⟨s.heap.objs.size,x,I.hok.fresh (Qg _),rfl,rfl,λys hy=>by rw[I.list_inj hy hq];exact hx⟩,⟨⟨u,?_⟩,(a2.extBut b2.extBut (Ne.symm hne))⟩,λb hb=>?_⟩
  ·have q:IsEnum h2 e it ((i:Int)+1) u:=b1;have c:(((i+1:Nat):Nat):Int)=(i:Int)+1:=by omega
   rw[c];exact q
  have z:b=e\/b=it:=by simpa using hb
  have nT:b≠s.heap.objs.size:=by
   rcases z with z|z
   ·rw[z];exact Ne.symm nTe
   rw[z];obtain⟨o,ho,_⟩:=hl;exact QF (Qt ho)
  rw[ah nT];exact(hf b hb).1
 done:=by
  intro X hP hw hK hc i pins s σ H E I hf st hg;subst hP hw hK;obtain⟨xs,hq,hx⟩:=hg;obtain⟨its,rv,p,hz⟩:=I.list hq;obtain⟨⟨old,he⟩,hl⟩:=st;obtain⟨f0,f1,f2,f3,f4,f5⟩:=hf it (by simp);have hlen:=rv.length;exact wpAny_pyNext_enum_end (I.ok.hd hc) he hl p.isList (by simp;exact om4 hx hlen) λh' eb=>⟨rfl,I.turned (t':=s.toks) (λb o hb q=>eb b o hb q) f0 f1 f3 f4 f5⟩
 self:=λ_ _ _ _ _ st h=>by
  obtain⟨⟨old,he⟩,_⟩:=st;exact wpAny_pyIter_enum he h
section
variable {X:Cx} {elts:List Expr} {k:Nat} {tpos:Pos}
def zN (K:PySem.W.Frag) (ta:TA):TI:=λσ H R=>ta σ H λvs H1=>∃a,vs=[.ref a]/\(∃xs,SqL K H1 a xs)/\R (Ite K a) H1
theorem gG {a:Expr} {ta:TA} {p pos:Pos} (hg:Gl X "enumerate") (hm:X.mg "enumerate" = none) (ha:PA X [a] ta) (hs:starEach [a] X.env=[(false,eval a X.env)]:=by rfl):PI X (.Tuple elts k tpos) (.Call (.Name "enumerate" p) [a] [] pos) (zN X.K ta):=by
 intro pins s σ H R I h;refine Call_ (dH I hg hm boot_enumerate (Xz (thn (ha pos pins s σ H _ I h) λus s1 ⟨vs,H1,I1,r1,q1⟩=>?_) hs rfl));obtain⟨l,e,⟨xs,hq⟩,q⟩:=q1;subst e
 cases r1 with
 | cons r rr =>
 cases rr;cases r;obtain⟨its,rv,pl,hz⟩:=I1.list hq;refine call_enumerate_list pl.isList λh' b1 b2 b3 b4=>?_;refine wpAny_pyIter_enum b1 ?_;have I2:Inv X pins σ H1 { s1 with heap:=h' }:=I1.kept (t':=s1.toks) b4;refine⟨s1.heap.objs.size+1,[s1.heap.objs.size+1,s1.heap.objs.size],_,_,H1,rfl,I2,qE l (s1.heap.objs.size+1) s1.heap.objs.size (by show @Ne Nat _ _;exact om5),⟨⟨_,b1⟩,b2⟩,λb hb=>?_,q⟩;have z:b=s1.heap.objs.size+1\/b=s1.heap.objs.size:=by simpa using hb
 have hle:s1.heap.objs.size<=b:=by
  rcases z with z|z
  ·rw[z];exact Nat.le_succ _
  rw[z];exact Qg _
 exact I1.fpOk hle (I1.hok.fresh hle)
end
theorem iG {K:PySem.W.Frag} {xs:List V} {g:TG} {tb:TS} {D:Ends} {σ:St} (Pv:Nat->St->Hp->Prop) (h0:Pv 0 σ H) (hl:∀i σ H,i<=xs.length->Pv i σ H->SqL K H a xs)
  (hs:∀i x σ H T,xs[i]?=some x->Pv i σ H->H T=none->g (.ref T) σ (upd H T (.tup [.int (i:Nat),x])) λσ2 H2=>tb { D with nx:=Pv (i+1),ct:=Pv (i+1),bk:=D.nx } σ2 H2) (hd:∀σ H,Pv xs.length σ H->D.nx σ H) :
  ∃W:Nat->Nat->St->Hp->Prop,(∃m,W 0 m σ H)/\∀i m σ H,W i m σ H ->
   ((Ite K a).stop i H/\D.nx σ H)\/((Ite K a).go i H/\∃N:St->Hp->Prop,(∀σ' H',N σ' H'->∃m',m'<m/\W (i+1) m' σ' H')/\∀x H',(Ite K a).yld i H x H'->g x σ H' λσ2 H2=>tb { D with nx:=N,ct:=N,bk:=D.nx } σ2 H2):=by
 refine⟨λi m σ H=>m=xs.length-i/\i<=xs.length/\Pv i σ H,⟨xs.length,by simp,QT _,h0⟩,?_⟩;rintro i m σ H ⟨rfl,hi,p⟩;have q:=hl i σ H hi p;by_cases hlt:i<xs.length
 ·refine .inr ⟨⟨xs,xs[i],q,by simp[hlt]⟩,Pv (i+1),λσ' H' p'=>⟨xs.length-(i+1),by exact om6 hlt,rfl,hlt,p'⟩,λx H' y=>?_⟩;obtain⟨T,v,hT,ex,eH,y⟩:=y;subst ex eH;exact hs i v σ H T (y xs q) p hT
 have e:i=xs.length:=by exact om0 hi hlt
 subst e;exact .inl ⟨⟨xs,q,Qg _⟩,hd σ H p⟩
structure Fn (P:Program) (w:World) (K:PySem.W.Frag) (mg:A2) (base:Heap) (x:Str) (ps:List Str) (k:Nat) (sp:Sp):Prop where
 ex:∃f fd,FnOk P w K mg base CX0 k f fd ps sp/\mg x=some (.ref f)/\PySem.W.keepIn K (.ref f)=true/\iY K fd ps []
section
variable {X:Cx}
theorem yY {x:Str} {ps:List Str} {k:Nat} {sp:Sp} {e:Expr} {es:List Expr} {t:TA} {p pos:Pos} (F:Fn X.prog X.w X.K X.mg X.base x ps k sp) (hr:Room k X.A) (hg:Gl X x) (ha:PA X (e::es) t)
  (hdb:(x==("__debug__" : Str))=false:=by decide) (he:starEach (e::es) X.env=(false,eval e X.env)::starEach es X.env:=by rfl) (hpl:(backTo pos (starEach es X.env)).any (·.1)=false:=by rfl) :
  PE X (.Call (.Name x p) (e::es) [] pos) (pd sp [] E0 t):=by
 obtain⟨f,fd,G,hm,hk,hb⟩:=F.ex;exact vq G hr hg hm hk hb .nil wU ha hdb he hpl
theorem aH {x:Str} {ps:List Str} {k j:Nat} {sp:Sp} {e:Expr} {es:List Expr} {t:TA} {p pos:Pos} (F:Fn X.prog X.w X.K X.mg X.base x ps k sp) (hr:Room j X.A) (ha:PA X (e::es) t) (hk:k<=j:=by first|decide|omega) (hg:Gl X x:=by rfl) (hdb:(x==("__debug__" : Str))=false:=by decide) (he:starEach (e::es) X.env=(false,eval e X.env)::starEach es X.env:=by rfl) (hpl:(backTo pos (starEach es X.env)).any (·.1)=false:=by rfl):PE X (.Call (.Name x p) (e::es) [] pos) (pd sp [] E0 t):=yY F (hr.mono hk) hg ha hdb he hpl
end
section
variable {σ:St} {H:Hp} {Q:VK} {K:PySem.W.Frag}
variable {v x y:V}
theorem aP {i:Nat} (h:σ[i]?=some (some v)) (q:Q v H):e_ i σ H Q:=⟨v,h,q⟩
theorem i_c (q:Q v H):tC v σ H Q:=q
variable {ta tb te to ti tl:TE}
theorem i_op {r:R2} (q:ta σ H λx H1=>tb σ H1 λy H2=>r x y H2 Q):tOp r ta tb σ H Q:=q
variable {i j:Int}
theorem i_rI0 {g:Int->Int->V} (q:Q (g i j) H):rI0 g (.int i) (.int j) H Q:=⟨i,j,rfl,rfl,q⟩
theorem i_rI {C:Int->Int->Prop} {g:Int->Int->V} (c:C i j) (q:Q (g i j) H):rI C g (.int i) (.int j) H Q:=⟨i,j,rfl,rfl,c,q⟩
theorem i_eq (h:vh x y=true) (q:Q (.bl (decide (x=y))) H):rEq x y H Q:=⟨h,q⟩
theorem i_ne (h:vh x y=true) (q:Q (.bl (!decide (x=y))) H):rNe x y H Q:=⟨h,q⟩
theorem i_test {t:TE} {R:Bool->Hp->Prop} (q:t σ H λx H'=>∃k,x=.bl k/\R k H'):rY t σ H R:=q
theorem i_tB {t:TE} {R:Bool->Hp->Prop} (q:t σ H λx H'=>∃k,x=.bl k/\R k H'):tB t σ H R:=q
theorem i_and {t u:TT} {R:Bool->Hp->Prop} (q:t σ H λc H1=>if c=true then u σ H1 R else R false H1):yP t u σ H R:=q
theorem i_or {t u:TT} {R:Bool->Hp->Prop} (q:t σ H λc H1=>if c=true then R true H1 else u σ H1 R):tOr t u σ H R:=q
theorem i_not {t:TT} {R:Bool->Hp->Prop} (q:t σ H λc H1=>R (!c) H1):yG t σ H R:=q
theorem i_andV (q:ta σ H λx H1=>∃c,x=.bl c/\if c=true then tb σ H1 Q else Q (.bl false) H1):yO ta tb σ H Q:=q
theorem i_orV (q:ta σ H λx H1=>∃c,x=.bl c/\if c=true then Q (.bl true) H1 else tb σ H1 Q):z_ ta tb σ H Q:=q
theorem i_notV (q:ta σ H λx H1=>∃c,x=.bl c/\Q (.bl (!c)) H1):yF ta σ H Q:=q
theorem i_ifE {t:TT} (q:t σ H λc H1=>if c=true then ta σ H1 Q else tb σ H1 Q):tIf t ta tb σ H Q:=q
theorem bo {R:List V->Hp->Prop} (q:R [] H):j3 σ H R:=q
theorem i_cons {tr:TA} {R:List V->Hp->Prop} (q:te σ H λx H1=>tr σ H1 λxs H2=>R (x::xs) H2):eO te tr σ H R:=q
theorem i_call {sp:Sp} {E:XK} {t:TA} (q:t σ H λvs H1=>sp vs H1 Q E):pd sp [] E t σ H Q:=by
 show t σ H λvs H1=>sp (vs++[]) H1 Q E;simpa only[XG] using q
theorem i_cb {r:List V->Hp->VK->Prop} {t:TA} (q:t σ H λvs H1=>r vs H1 Q):tCB r t σ H Q:=q
theorem i_tup {t:TA} (q:t σ H λxs H1=>xs.length<=sizeLine/\∀p,H1 p=none->Q (.ref p) (upd H1 p (.tup xs))):rX t σ H Q:=q
theorem i_lst {t:TA} (q:t σ H λxs H1=>xs.length<=sizeLine/\∀p,H1 p=none->Q (.ref p) (upd H1 p (.lst xs))):rZ t σ H Q:=q
theorem i_bm {T:String} {r:V->List V->Hp->VK->Prop} {t:TA} (q:to σ H λx H1=>tyV K T x H1/\t σ H1 λxs H2=>r x xs H2 Q):tBM K T r to t σ H Q:=q
theorem i_sl {r:V->Option Int->Option Int->Hp->VK->Prop} {tl th:TO} (q:te σ H λx H1=>tl σ H1 λl H2=>th σ H2 λu H3=>r x l u H3 Q):tSl r te tl th σ H Q:=q
theorem i_nopart {R:Option Int->Hp->Prop} (q:R none H):o0 σ H R:=q
theorem i_part {t:TE} {R:Option Int->Hp->Prop} (q:t σ H λx H1=>∃i,x=.int i/\R (some i) H1):wI t σ H R:=q
variable {xs:List V}
theorem bj {p:Addr} {v:V} (h:SqL K H p xs) (e:atI xs i=some v) (q:Q v H):sV K (.ref p) (.int i) H Q:=⟨p,xs,i,v,rfl,rfl,h,e,q⟩
theorem i_ixT {p:Addr} (h:H p=some (.tup xs)) (e:atI xs i=some v) (q:Q v H):sT K (.ref p) (.int i) H Q:=⟨p,xs,i,v,rfl,rfl,SqT.of h,e,q⟩
theorem fS {z:Str} {c:Nat} (hz:z.length<=sizeLine) (e:atI z.cps.toList i=some c) (q:Q (.str ⟨#[c]⟩) H):yX (.str z) (.int i) H Q:=⟨z,i,c,rfl,rfl,hz,e,q⟩
variable {D:Ends}
theorem s_seq {t u:TS} (q:t { D with nx:=u D } σ H):u_ t u D σ H:=q
theorem s_asg {g:TG} (q:te σ H λx H1=>g x σ H1 D.nx):se te g D σ H:=q
theorem aA {i:Nat} {R:St->Hp->Prop} (q:R (σ.set i (some v)) H):dv i v σ H R:=q
theorem s_drop (q:te σ H λ_ H1=>D.nx σ H1):wK te D σ H:=q
theorem s_ret {te:TE} (q:te σ H D.rt):yE te D σ H:=q
theorem s_next (q:D.nx σ H):wJ D σ H:=q
theorem s_if {c:TT} {t u:TS} (q:c σ H λb H1=>if b=true then t D σ H1 else u D σ H1):yI c t u D σ H:=q
theorem s_sub {t:wB} {R:St->Hp->Prop} (q:to σ H λo H1=>ti σ H1 λi H2=>t o i v H2 λH3=>R σ H3):zP to ti t v σ H R:=q
theorem s_setL {p:Addr} {k:Int} {j:Nat} {R:Hp->Prop} (h:H p=some (.lst xs)) (e:ixN xs.length k=some j) (q:R (upd H p (.lst (xs.set j v)))):wS (.ref p) (.int k) v H R:=⟨p,xs,k,j,rfl,rfl,h,e,q⟩
theorem s_for {wi:TI} {g:TG} {tb:TS} (q:wi σ H λJ H1=>∃W:Nat->Nat->St->Hp->Prop,(∃m,W 0 m σ H1)/\∀i m σ H,W i m σ H ->
 (J.stop i H/\D.nx σ H)\/(J.go i H/\∃N:St->Hp->Prop,(∀σ' H',N σ' H'->∃m',m'<m/\W (i+1) m' σ' H')/\∀x H',J.yld i H x H'->g x σ H' λσ2 H2=>tb { D with nx:=N,ct:=N,bk:=D.nx } σ2 H2)):yL wi g tb D σ H:=q
theorem s_rng1 {ta:TA} {R:It->Hp->Prop} (q:ta σ H λvs H1=>∃j:Int,vs=[.int j]/\-(2 ^ 62)<=j/\j<2 ^ 62/\R (Itr 0 j.toNat) H1):w_ ta σ H R:=q
theorem s_list {R:It->Hp->Prop} (q:tl σ H λx H1=>∃a,x=.ref a/\(∃xs,SqL K H1 a xs)/\R (Itl K a) H1):mO K tl σ H R:=q
theorem s_str {R:It->Hp->Prop} (q:tl σ H λv H1=>∃z:Str,v=.str z/\R (Itf z.cps.size (jm z)) H1):Ag tl σ H R:=q
theorem b_ {wi:TI} {g:TG} {tt:TT} {f:St->St} (q:wi σ H λJ H1=>∀D,H1 D=none->∃W:Nat->Nat->Hp->List V->Prop,(∃m,W 0 m (upd H1 D (.lst [])) []) /\
 ∀i m H ys,W i m H ys->H D=some (.lst ys)/\((J.stop i H/\Q (.ref D) H)\/(J.go i H/\∀x H',J.yld i H x H'->g x (f σ) H' λσ2 H2=>wk (f σ) σ2/\tt σ2 H2 λb H3 =>
  if b=true then te σ2 H3 λv H4=>H4 D=some (.lst ys)/\ys.length<sizeLine/\∃m',m'<m/\W (i+1) m' (upd H4 D (.lst (ys++[v]))) (ys++[v])
  else ∃m',m'<m/\W (i+1) m' H3 ys))):gL wi g tt te f σ H Q:=q
end
def eX (Pv:Nat->Hp->List V->Prop) (n:Nat) (D:Addr) (i:Nat) (ys:List V):VK:=λv H4=>H4 D=some (.lst ys)/\ys.length<sizeLine/\∃m',m'<n-i/\(m'=n-(i+1)/\i+1<=n/\Pv (i+1) (upd H4 D (.lst (ys++[v]))) (ys++[v]))
theorem eX.mk {Pv:Nat->Hp->List V->Prop} {n:Nat} {D:Addr} {i:Nat} {ys:List V} {v:V} (hd:H4 D=some (.lst ys)) (hi:i<n) (hl:ys.length<sizeLine) (p:Pv (i+1) (upd H4 D (.lst (ys++[v]))) (ys++[v])):eX Pv n D i ys v H4 :=
 ⟨hd,hl,n-(i+1),by exact om6 hi,rfl,hi,p⟩
section
variable {K:PySem.W.Frag} {g:TG} {te:TE} {σ0:St} {QD:Hp->Prop} {H1:Hp} {D:Addr}
theorem ft {lo:Int} {n:Nat} (Pv:Nat->Hp->List V->Prop) (h0:Pv 0 (upd H1 D (.lst [])) []) (hD:∀i H ys,Pv i H ys->H D=some (.lst ys))
  (hs:∀i H ys,i<n->Pv i H ys->g (.int (lo+i)) σ0 H λσ2 H2=>wk σ0 σ2/\lF σ2 H2 λb H3=>if b=true then te σ2 H3 (eX Pv n D i ys) else ∃m',m'<n-i/\(m'=n-(i+1)/\i+1<=n/\Pv (i+1) H3 ys)) (hd:∀H ys,Pv n H ys->QD H) :
  ∃W:Nat->Nat->Hp->List V->Prop,(∃m,W 0 m (upd H1 D (.lst [])) [])/\∀i m H ys,W i m H ys->H D=some (.lst ys)/\(((Itr lo n).stop i H/\QD H)\/((Itr lo n).go i H/\∀x H',(Itr lo n).yld i H x H'->g x σ0 H' λσ2 H2=>wk σ0 σ2/\lF σ2 H2 λb H3 =>
   if b=true then te σ2 H3 λv H4=>H4 D=some (.lst ys)/\ys.length<sizeLine/\∃m',m'<m/\W (i+1) m' (upd H4 D (.lst (ys++[v]))) (ys++[v]) else ∃m',m'<m/\W (i+1) m' H3 ys)):=by
 refine⟨λi m H ys=>m=n-i/\i<=n/\Pv i H ys,⟨n,by simp,QT _,h0⟩,?_⟩;rintro i m H ys ⟨rfl,hi,p⟩;refine⟨hD i H ys p,?_⟩;by_cases hlt:i<n
 ·refine .inr ⟨hlt,λx H' y=>?_⟩;obtain⟨e,y⟩:=y;subst e y;exact hs i _ ys hlt p
 have e:i=n:=by exact om0 hi hlt
 subst e;exact .inl ⟨Qg _,hd H ys p⟩
end
section
variable {H:Hp} {Q:VK} {K:PySem.W.Frag}
theorem mM {z:Str} {lo hi:Option Int} (h:z.length<=sizeLine) (q:Q (.str (Txt.slice z lo hi)) H):yT (.str z) lo hi H Q:=⟨z,rfl,h,q⟩
variable {xs zs:List V}
theorem p8 {a:Addr} {lo hi:Option Int} (h:SqL K H a xs) (q:∀p,H p=none->Q (.ref p) (upd H p (.lst (kW xs lo hi)))):yU K (.ref a) lo hi H Q:=⟨a,xs,rfl,h,q⟩
theorem Af {x:V} {p:Addr} (h:SqL K H p xs) (fx:cr x=true) (fs:xs.all cr=true) (q:Q (.bl (inV x xs)) H):rIn K false x (.ref p) H Q:=⟨p,xs,rfl,.inl h,fx,fs,q⟩
theorem iE {l b:Addr} (h1:H l=some (.lst xs)) (h2:H b=some (.lst zs)) (hz:xs.length+zs.length<=sizeLine) (q:∀p,H p=none->Q (.ref p) (upd H p (.lst (xs++zs)))):xH (.ref l) (.ref b) H Q:=⟨l,b,xs,zs,rfl,rfl,h1,h2,hz,q⟩
theorem dQ {l:Addr} {xs:List V} {y:V} (h:H l=some (.lst xs)) (hz:xs.length<sizeLine) (q:Q .non (upd H l (.lst (xs++[y])))):pH (.ref l) [y] H Q:=⟨l,xs,y,rfl,rfl,h,hz,q⟩
theorem i_tyL {p:Addr} (h:H p=some (.lst xs)):tyV K "list" (.ref p) H:=.inl ⟨rfl,xs,SqL.of h⟩
end
theorem ar {p:Addr} {o:HO} (hp:H p=none):ak H (upd H p o):=λb u e=>by rw[ah (aq e hp)];exact e
end L2
namespace L2
open PySem
section
variable {σ:St} {H:Hp} {D:Ends}
theorem s_seqT {t u:TS} (q:let D':Ends:={ D with nx:=u D };t D' σ H):u_ t u D σ H:=q
theorem s_nameT {i:Nat} {v:V} {R:St->Hp->Prop} (q:let σ':St:=σ.set i (some v);R σ' H):dv i v σ H R:=q
end
variable {H:Hp}
theorem i_yes {σ:St} {R:Bool->Hp->Prop} (q:R true H):lF σ H R:=q
theorem i_dget {td ty:TE} {σ:St} {Q:VK} (q:td σ H λx H1=>ty σ H1 λy H2=>∃a v,x=.ref a/\cN H2 a y (some v)/\Q v H2):wL td ty σ H Q:=q
theorem i_un {r:V->Hp->VK->Prop} {ta:TE} {σ:St} {Q:VK} (q:ta σ H λx H1=>r x H1 Q):tUn r ta σ H Q:=q
theorem i_rU {g:Int->V} {i:Int} {Q:VK} (q:Q (g i) H):rU g (.int i) H Q:=⟨i,rfl,q⟩
end L2
namespace L2
open PySem PySem.Spec PyProof.Rows
def bN (H:Hp) (c:Addr):Hp:=λb=>if b=c then none else H b
variable {c b f cell fa a T:Addr} {H H':Hp}
theorem cH:bN H c c=none:=Qs rfl
theorem bt (h:b≠c):bN H c b=H b:=Qn h
theorem rD {o:HO} (h:bN H c b=some o):b≠c/\H b=some o:=by
 by_cases e:b=c
 ·subst e;rw[cH]at h;cases h
 rw[bt e]at h;exact⟨e,h⟩
def c_ (o:Obj):HO:=.frz o (.ext λ_=>True)
section
variable {P:Program} {w:World} {H H1:Hp} {h h1:Heap} {c:Addr} {o:Obj} {fs ex:A3}
theorem wx {H:Hp} (e:h.get? c=some o):bp P w H h c (c_ o):=⟨e,trivial,⟨o,e⟩,λ_ _ _ _=>trivial⟩
theorem HOk.drop (x:HOk P w H h) (hc:H c=some (c_ o)):HOk P w (bN H c) h:=λb u e=>by
 obtain⟨_,e⟩:=rD e;refine(x b u e).stay (λ_ _ _ q=>q) (λd q=>?_) λd xs q=>?_
 ·rw[bt];exact q;intro z;subst z;rw[hc]at q;cases q
 rw[bt];exact q;intro z;subst z;rw[hc]at q;cases q
theorem HOk.take (x:HOk P w H h) (hc:H c=none) (e:h.get? c=some o):HOk P w (upd H c (c_ o)) h:=λb u q=>by
 by_cases hb:b=c
 ·subst hb;rw[ag]at q;cases q;exact wx e
 rw[ah hb]at q;refine(x b u q).stay (λ_ _ _ r=>r) (λd r=>?_) λd xs r=>?_
 ·rw[ah (aq r hc)];exact r
 rw[ah (aq r hc)];exact r
theorem Un.back (u:Un fs ex (bN H c) H1 h h1) (hc:H c=some (c_ o)) (e:h.get? c=some o) (nf:c∉fs) (nx:c∉ex):Un fs ex H (upd H1 c (c_ o)) h h1/\H1 c=none/\h1.get? c=some o:=by
 have h1c:=u.free c o e cH nx;have e1:=u.keep c o e cH nf nx;have ne:∀{b v},H b=some v->v≠c_ o->b≠c:=λq n z=>by subst z;rw[hc]at q;cases q;exact n rfl
 have nn:∀{b},H b=none->b≠c:=λq z=>by subst z;rw[hc]at q;cases q
 refine⟨⟨λb ob q n hb hx=>?_,λb ob q n hb hx=>?_,λb ob q n hx=>?_,λb ob q hx=>u.there b ob q hx,λb xs q=>?_,λb ob v q=>?_,λb ps q=>?_⟩,h1c,e1⟩
 ·exact u.keep b ob q (by rw[bt (nn n)];exact n) hb hx
 ·exact u.slot b ob q (by rw[bt (nn n)];exact n) hb hx
 ·rw[ah (nn n)];exact u.free b ob q (by rw[bt (nn n)];exact n) hx
 ·have nb:=ne q (λz=>by cases z);rw[ah nb];exact u.tups b xs (by rw[bt nb];exact q)
 ·by_cases nb:b=c
  ·subst nb;rw[hc]at q;cases q;exact ag
  rw[ah nb];exact u.frzs b ob v (by rw[bt nb];exact q)
 have nb:=ne q (λz=>by cases z);rw[ah nb];exact u.tbls b ps (by rw[bt nb];exact q)
theorem Un.out (u:Un fs ex (upd H c (c_ o)) H1 h h1) (k1:HOk P w H1 h1) (hc:H c=none) (e:h.get? c=some o) (nf:c∉fs):Un fs ex H (bN H1 c) h h1/\HOk P w (bN H1 c) h1/\H1 c=some (c_ o):=by
 have h1c:=u.frzs c o _ ag;have e1:=(k1 c _ h1c).1;refine⟨⟨λb ob q n hb hx=>?_,λb ob q n hb hx=>?_,λb ob q n hx=>?_,λb ob q hx=>u.there b ob q hx,λb xs q=>?_,λb ob v q=>?_,λb ps q=>?_⟩,k1.drop h1c,h1c⟩
 ·by_cases nb:b=c
  ·subst nb;rw[e]at q;cases q;exact e1
  exact u.keep b ob q (by rw[ah nb];exact n) hb hx
 ·have nb:b≠c:=λz=>by subst z;exact nf hb
  exact u.slot b ob q (by rw[ah nb];exact n) hb hx
 ·by_cases nb:b=c
  ·subst nb;exact cH
  rw[bt nb];exact u.free b ob q (by rw[ah nb];exact n) hx
 ·have nb:=aq q hc;rw[bt nb];exact u.tups b xs (by rw[ah nb];exact q)
 ·have nb:=aq q hc;rw[bt nb];exact u.frzs b ob v (by rw[ah nb];exact q)
 have nb:=aq q hc;rw[bt nb];exact u.tbls b ps (by rw[ah nb];exact q)
end
structure Lm where
 qual:Str
 params:Arguments
 body:Expr
 scope:Scope
 pos:Pos
def gu (c:Addr) (qual:Str):HO:=.ext λh=>h.CodeRec (.ref c) qual
def gn (f:Addr) (l:Lm) (cl:List (Str × Addr)) (c:Addr):HO:=.ext λh=>∃pm ctv,h.get? f=some (PySem.W.kla_obj "<lambda>" l.qual l.params l.body l.scope cl pm c ctv)
variable {qual y z x n:Str} {h h1:Heap}
theorem uO {P:Program} {w:World} (r:h.CodeRec (.ref c) qual):bp P w H h c (gu c qual):=by
 obtain⟨d,oc,vs,t,e1,e2,r2⟩:=id r;cases e1;refine⟨r,⟨oc,e2⟩,λh1 h2 p k=>?_⟩;obtain⟨d,oc,vs,t,e1,e2,r2⟩:=p;cases e1;exact⟨_,oc,vs,t,rfl,k _ e2,r2⟩
variable {pm ctv u uy:Value} {cl:List (Str × Addr)}
theorem pX {P:Program} {w:World} {l:Lm} (e:h.get? f=some (PySem.W.kla_obj "<lambda>" l.qual l.params l.body l.scope cl pm c ctv)):bp P w H h f (gn f l cl c) :=
 ⟨⟨pm,ctv,e⟩,⟨_,e⟩,λ_ _ ⟨pm,ctv,q⟩ k=>⟨pm,ctv,k _ q⟩⟩
def dB (l:Lm) (c:Addr):Array Value:=#[rawInt l.pos.line,rawInt l.pos.col,.ref c]
def cz (T:Addr) (l:Lm) (H:Hp):Prop:=H T=some (.tbl #[])\/∃c,H T=some (.tbl (dB l c))/\H c=some (gu c l.qual)
structure Made (T:Addr) (l:Lm) (cl:List (Str × Addr)) (H:Hp) (f c:Addr) (H':Hp):Prop where
 new:H f=none
 fn:H' f=some (gn f l cl c)
 code:H' c=some (gu c l.qual)
 tab:H' T=some (.tbl (dB l c))
 old:∀b o,H b=some o->b≠T->H' b=some o
def eY (base:Heap) (mg:A2):Prop:=∃bm ob,mg "__builtins__" = some (.ref bm)/\bm≠builtinsNs/\bm≠mainGlobals/\base.get? bm=some ob/\ob.cls=.type "module" /\ ob.dict=some builtinsNs/\ob.data=.plain
def yH (T:Addr) (l:Lm) (cl:List (Str × Addr)):TE:=λ_ H Q=>cz T l H/\∀f c H',Made T l cl H f c H'->Q (.ref f) H'
section
variable {X:Cx}
theorem xM {params:Arguments} {body:Expr} {scope:Scope} {pos:Pos} {cc T:Addr} {cl:List (Str × Addr)} (hcode:X.env.code=.ref cc) (C:PySem.W.CodeHd X.base cc T) (B:eY X.base X.mg) (hcl:closureFor scope X.env=pure cl) (hdef:defaultsOf params X.env=([],[]):=by rfl) :
  PE X (.Lambda params body scope pos) (yH T ⟨X.env.qual ++ "<lambda>", params,body,scope,pos⟩ cl):=by
 intro pins s σ H Q I h;obtain⟨tb,q⟩:=h;refine PySem.W.kla_eval hdef ?_;have hg:s.heap.Ns mainGlobals X.mg:=I.mod.glob.keeps I.bk;have hT:∃ps,H T=some (.tbl ps):=by rcases tb with e|⟨c,e,_⟩ <;> exact⟨_,e⟩
 obtain⟨ps0,hps0⟩:=hT
 have bne:∀{b ob},X.base.get? b=some ob->b≠T:=λe z=>by
  subst z;rw[(I.bs _ _ e).2]at hps0;cases hps0
 have hgP:mainGlobals≠T:=by
  obtain⟨o,es,ep,e,_⟩:=I.mod.glob;exact bne e
 obtain⟨bm,ob,b1,b2,b3,b4,b5,b6,b7⟩:=B;have hB:s.heap.BuiltinsAt X.mg T:=⟨bm,ob,b1,b2,b3,bne b4,I.bk _ _ b4,b5,b6,b7⟩;have CH:=C.keeps I.bk;rcases tb with e|⟨c,e,hc⟩
 ·have hP:s.heap.get? T=some (PySem.W.tabObj #[]):=I.hok T _ e;refine PySem.W.kla_makeFunction (mg:=X.mg) hcl I.ok.glob hg hcode CH hP trivial rfl hgP hB λc' ctv h' tk hx hge hlt hrec htb=>?_;have hsz:s.heap.objs.size<=h'.objs.size:=XT (XO hge hlt);have nT:T<s.heap.objs.size:=Qt hP;let f:Addr:=h'.objs.size;have Hf:H f=none:=I.hok.fresh hsz;have Hc:H c'=none:=I.hok.fresh hge;have nfc:c'≠f:=QF hlt;have nTf:T≠f:=QF (QO nT hsz);have nTc:T≠c':=QF (QO nT hge);let H':Hp:=upd (upd (upd H T (.tbl (dB ⟨X.env.qual ++ "<lambda>", params,body,scope,pos⟩ c'))) c' (gu c' (X.env.qual ++ "<lambda>"))) f (gn f ⟨X.env.qual ++ "<lambda>", params,body,scope,pos⟩ cl c')
  have hH:∀b o,H b=some o->b≠T->H' b=some o:=λb o e n=>by
   show upd (upd (upd H T _) c' _) f _ b=_;rw[ah (aq e Hf),ah (aq e Hc),ah n];exact e
  have hHT:H' T=some (.tbl (dB ⟨X.env.qual ++ "<lambda>", params,body,scope,pos⟩ c')):=by
   show upd (upd (upd H T _) c' _) f _ T=_;rw[ah nTf,ah nTc,ag]
  have hHc:H' c'=some (gu c' (X.env.qual ++ "<lambda>")):=by
   show upd (upd (upd H T _) c' _) f _ c'=_;rw[ah nfc,ag]
  have kx:∀b o,b≠T->s.heap.get? b=some o->(h'.push (PySem.W.kla_obj "<lambda>" (X.env.qual ++ "<lambda>") params body scope cl ((X.mg "__name__").getD .none) c' ctv)).get? b=some o:=λb o n e=>Qe _ (hx b o n e);have htb':h'.get? T=some (PySem.W.tabObj (dB ⟨X.env.qual ++ "<lambda>", params,body,scope,pos⟩ c')):=by simpa[dB] using htb
  have ntb:∀{b u},H b=some u->(∀ps,u≠.tbl ps)->b≠T:=λr n z=>by
   subst z;rw[e]at r;cases r;exact n _ rfl
  have un:Un X.fs [] H H' s.heap (h'.push (PySem.W.kla_obj "<lambda>" (X.env.qual ++ "<lambda>") params body scope cl ((X.mg "__name__").getD .none) c' ctv)):=by
   have nn:∀{b},H b=none->b≠T:=λn z=>by subst z;rw[e]at n;cases n
   refine⟨λb o r n _ _=>kx b o (nn n) r,λb o r n _ _=>⟨o.slots,kx b o (nn n) r⟩,λb o r n _=>?_,λb o r _=>?_,λb xs r=>hH b _ r (ntb r λ_ z=>nomatch z),λb o v r=>hH b _ r (ntb r λ_ z=>nomatch z),λb ps r=>?_⟩
   ·have lb:b<s.heap.objs.size:=Qt r;show upd (upd (upd H T _) c' _) f _ b=none;rw[ah (QF (QO lb hsz)),ah (QF (QO lb hge)),ah (nn n)];exact n
   ·by_cases z:b=T
    ·subst z;exact⟨_,Qe _ htb'⟩
    exact⟨o,kx b o z r⟩
   by_cases z:b=T
   ·subst z;rw[e]at r;cases r;exact⟨dB ⟨X.env.qual ++ "<lambda>", params,body,scope,pos⟩ c',by rw[hHT,Array.empty_append]⟩
   exact⟨#[],by rw[hH b _ r z];simp⟩
  have hok:HOk X.prog X.w H' (h'.push (PySem.W.kla_obj "<lambda>" (X.env.qual ++ "<lambda>") params body scope cl ((X.mg "__name__").getD .none) c' ctv)):=λb u qb=>by
   have qb:upd (upd (upd H T (.tbl (dB ⟨X.env.qual ++ "<lambda>", params,body,scope,pos⟩ c'))) c' (gu c' (X.env.qual ++ "<lambda>"))) f (gn f ⟨X.env.qual ++ "<lambda>", params,body,scope,pos⟩ cl c') b=some u:=qb;by_cases z1:b=f
   ·subst z1;rw[ag]at qb;cases qb;exact pX (Qy _ rfl)
   rw[ah z1]at qb;by_cases z2:b=c'
   ·subst z2;rw[ag]at qb;cases qb;obtain⟨d,oc,vs,t,e1,e2,r2⟩:=hrec;exact uO ⟨d,oc,vs,t,e1,Qe _ e2,r2⟩
   rw[ah z2]at qb;by_cases z3:b=T
   ·subst z3;rw[ag]at qb;cases qb;exact Qe _ htb'
   rw[ah z3]at qb;refine(I.hok b u qb).stay (λd v hd r=>kx d v ?_ r) (λd r=>hH d _ r (ntb r λ_ z=>nomatch z)) λd xs r=>hH d _ r (ntb r λ_ z=>nomatch z);rcases hd with z|z
   ·rw[z];exact z3
   intro y;subst y;rw[e]at z;cases z
  refine⟨.ref f,H',I.un (t':=tk) un hok,rfl,q f c' H' ⟨Hf,ag,hHc,hHT,hH⟩⟩
 have hP:s.heap.get? T=some (PySem.W.tabObj (dB ⟨X.env.qual ++ "<lambda>", params,body,scope,pos⟩ c)):=I.hok T _ e;refine PySem.W.kla_makeFunctionHit (mg:=X.mg) (cv:=.ref c) hcl I.ok.glob hg hcode CH hP trivial (by simp[dB,codeAmong,rawInt]) hB λctv h' tk hk hsz=>?_;let f:Addr:=h'.objs.size;have Hf:H f=none:=I.hok.fresh hsz;refine⟨.ref f,_,I.laid (t':=tk) (a:=f) (o:=gn f ⟨X.env.qual ++ "<lambda>", params,body,scope,pos⟩ cl c) (λb o e=>Qe _ (hk b o e)) hsz (pX (Qy _ rfl)),rfl,q f c _ ⟨Hf,ag,?_,?_,λb o e _=>?_⟩⟩
 ·rw[ah (aq hc Hf)];exact hc
 ·rw[ah (aq e Hf)];exact e
 rw[ah (aq e Hf)];exact e
end
structure LmScope (x y:Str) (sc:Scope):Prop where
 kind:sc.kind=.function
 co:sc.isCoroutine=false
 gen:sc.isGenerator=false
 par:sc.names.lookup x=some .local
 fre:sc.names.lookup y=some .free
 ne:x≠y
 nocell:∀z∈sc.names,z.2≠.cell
 only:∀z,sc.names.lookup z=some .free->z=y
noncomputable def qr (P:Program) (w:World) (K:PySem.W.Frag) (mg:A2) (base:Heap) (x y:Str) (l:Lm) (f c cell:Addr) (A:Around) (outer:List Env) (s:Shared) (H:Hp) (E:XK):Cx where
 prog:=P
 w:=w
 K:=K
 mg:=mg
 base:=base
 A:=A.deeper (PySem.W.envX l.qual l.scope s.heap.objs.size f (.ref c) [(y,cell)])
 N:=[x,y]
 s₀:=s
 H₀:=H
 env:=PySem.W.envX l.qual l.scope s.heap.objs.size f (.ref c) [(y,cell)]
 outer:=outer
 stack:=PySem.W.envX l.qual l.scope s.heap.objs.size f (.ref c) [(y,cell)]::outer
 ex:=[]
 calm:=true
 fn:=λ_=>false
 pn:=[]
 xe:=λe s'=>wpAny (model P w) (A.deeper (PySem.W.envX l.qual l.scope s.heap.objs.size f (.ref c) [(y,cell)])) (leaving (PySem.W.envX l.qual l.scope s.heap.objs.size f (.ref c) [(y,cell)]) e) (λ_ s''=>CX0 outer H s E e s'') (λe' s''=>CX0 outer H s E e' s'') s'
theorem lk1 (h:[(y,cell)].lookup z=some c):z=y/\c=cell:=by
 rw[Q6]at h;by_cases e:(z==y)=true
 ·rw[e]at h;cases h;exact⟨eq_of_beq e,rfl⟩
 have e:(z==y)=false:=by simpa using e
 rw[e]at h;cases h
theorem mD:[(y,cell)].lookup y=some cell:=by
 rw[Q6,beq_self_eq_true]
variable {s s₁:Shared}
theorem v3 {P:Program} {w:World} {K:PySem.W.Frag} {mg:A2} {base:Heap} {l:Lm} {f c:Addr} {A:Around} {outer:List Env} {E:XK} {vx vy:V} {tk:Nat}
  (S:LmScope x y l.scope) (hd:A.handled=none) (e0:Env0 P w K mg base A outer s H) (rx:aN vx u) (ry:aN vy uy) (hc:s.heap.IsCell cell (some uy)) (hH:H cell=none)
  (hns:h1.Ns s.heap.objs.size (λz=>[(x,u)].reverse.lookup z)) (hk:∀b o,s.heap.get? b=some o->h1.get? b=some o) :
  Inv (qr P w K mg base x y l f c cell A outer s H E) [] [some vx,some vy] H { s with heap:=h1,toks:=tk }:=by
 have noA:∀b:Addr,b∉(qr P w K mg base x y l f c cell A outer s H E).ex:=λb z=>absurd (show b∈([]:A3) from z) (by simp);have hc1:h1.IsCell cell (some uy):=by obtain⟨o,e1,e2⟩:=hc;exact⟨o,hk _ _ e1,e2⟩
 refine⟨⟨e0.mod,S.kind,rfl,rfl,Qg _,λy' z c h1 h2=>(lk1 h1).1.trans (lk1 h2).1.symm,λz hz=>?_,(λy c h _=>nomatch h),λ_=>hd,Around.frames_deeper e0.frames,.inr ⟨rfl,rfl⟩,λb z=>absurd z (noA b),e0.bs,e0.bsz,λb _ _=>noA b,λb z=>absurd z (noA b),e0.funs,e0.frf⟩,
  rfl,e0.bare,Un.kept hk,⟨_,hns,λi z v h1 h2 h3=>?_⟩,λz c h=>?_,e0.hok.fresh (Qg _),λz c h=>?_,λp hp=>absurd (show p∈([]:A1) from hp) (by simp),e0.hok.kept hk,rfl⟩
 ·have hz:l.scope.names.lookup z=some .cell\/l.scope.names.lookup z=some .free:=hz;rcases hz with hz|hz
  ·exact absurd rfl (S.nocell _ (PySem.mem_of_lookup hz))
  rw[S.only z hz];exact⟨cell,mD⟩
 ·match i with
  | 0 =>
   cases h1;cases h2;refine⟨u,rx,.inl ⟨S.par,?_⟩⟩;show [(x,u)].reverse.lookup x=some u;simp[List.lookup]
  | 1 =>
   cases h1;cases h2;exact⟨uy,ry,.inr ⟨.inr S.fre,cell,mD,hc1⟩⟩
  | i+2 =>
   exact absurd h1 (by show ([x,y]:List Str)[i+2]?≠some z;simp)
 ·rw[(lk1 h).2];exact⟨_,hc1⟩
 rw[(lk1 h).2];exact hH
theorem vT {P:Program} {w:World} {K:PySem.W.Frag} {mg:A2} {base:Heap} {l:Lm} {A:Around} {outer:List Env} {Q:VK} {E:XK} {vx vy:V} {k:Nat} {t:TE} {args:Args}
  (S:LmScope x y l.scope) (hr:Room (k+1) A) (e0:Env0 P w K mg base A outer s H) (rx:aN vx u) (ry:aN vy uy) (hc:s.heap.IsCell cell (some uy)) (hH:H cell=none)
  (hf:s.heap.get? f=some (PySem.W.kla_obj "<lambda>" l.qual l.params l.body l.scope [(y,cell)] pm c ctv)) (hcd:s.heap.CodeRec (.ref c) l.qual) (hb:bindArgs (PySem.W.kla_fn "<lambda>" l.qual l.params l.body l.scope [(y,cell)] pm (.ref c) ctv) args=pure [(x,u)])
  (body:Room k (A.deeper (PySem.W.envX l.qual l.scope s.heap.objs.size f (.ref c) [(y,cell)]))->PE (qr P w K mg base x y l f c cell A outer s H E) l.body t) (q:t [some vx,some vy] H Q):codeAny (model P w) A (.call (.ref f) args) (CR CX0 outer P w H s Q E) s:=by
 have lim:s.heap.NoLimit:=e0.mod.nolimit.keeps λb o e=>(e0.bs b o e).1;refine PySem.W.kla_callFunE hr.depth hf rfl S.co S.gen rfl hcd ?_;rw[hb];refine Qf (wpAny_newFunctionEnv S.nocell (λz hz=>by rw[Qv.mp hz];exact S.par) (λh1 hns hsb=>?_) S.kind);have hk1:∀b o,s.heap.get? b=some o->h1.get? b=some o:=λb o e=>hsb.extBut b o (QF (Qt e)) (Qe _ e);refine⟨lim.keeps hk1,?_⟩;show codeAny _ _ (.expr l.body (PySem.W.envX l.qual l.scope s.heap.objs.size f (.ref c) [(y,cell)])) _ _;have I:=v3 (f:=f) (c:=c) (E:=E) (tk:=s.toks+[(x,u)].length) S hr.hd e0 rx ry hc hH hns hk1;refine PySem.W.kla_codeExpr (XV (body (hr.deeper _) [] _ _ H Q I q) (λv s' hs=>?_) λe s' hs=>hs);obtain⟨v',H',J,rv,qv⟩:=hs;exact⟨v',H',J.os,J.bare,J.base,J.hok,rv,qv⟩
def Calls (P:Program) (w:World) (K:PySem.W.Frag) (mg:A2) (base:Heap) (k:Nat) (f:Addr) (r:V->Hp->VK->Prop):Prop :=
 ∀(X:Cx),X.prog=P->X.w=w->X.K=K->X.mg=mg->X.base=base->iX CX0 X E0->Room k X.A->∀pins s σ H vx u (Q:VK),Inv X pins σ H s->aN vx u->r vx H Q->wpAny (model X.prog X.w) X.A (call (.ref f) [u]) (EP X pins σ Q) X.xe s
def yV (f:Addr) (l:Lm) (y:Str) (cell c:Addr) (t:TE):V->Hp->VK->Prop:=λvx H Q=>∃(o:Obj) (uy:Value) (vy:V),H f=some (gn f l [(y,cell)] c)/\H c=some (gu c l.qual)/\H cell=some (c_ o)/\o.data=.cell (some uy)/\aN vy uy /\
 t [some vx,some vy] (bN H cell) λv H'=>Q v (upd H' cell (c_ o))
theorem rG {P:Program} {w:World} {K:PySem.W.Frag} {mg:A2} {base:Heap} {l:Lm} {k:Nat} {t:TE} (S:LmScope x y l.scope)
  (hb:∀(pm ctv u:Value),bindArgs (PySem.W.kla_fn "<lambda>" l.qual l.params l.body l.scope [(y,cell)] pm (.ref c) ctv) ⟨[u],[]⟩=pure [(x,u)])
  (body:∀(A:Around) (outer:List Env) (s:Shared) (H:Hp),Room k (A.deeper (PySem.W.envX l.qual l.scope s.heap.objs.size f (.ref c) [(y,cell)]))->PE (qr P w K mg base x y l f c cell A outer s H E0) l.body t) :
  Calls P w K mg base (k+1) f (yV f l y cell c t):=by
 intro X e1 e2 e3 e4 e5 hx hr pins s σ H vx u Q I rx h;subst e1 e2 e3 e4 e5;obtain⟨o,uy,vy,hf,hc,hcell,hd,ry,q⟩:=h;obtain⟨pm,ctv,ef⟩:=(I.hok f _ hf).1;have ec:s.heap.CodeRec (.ref c) l.qual:=(I.hok c _ hc).1;have eo:s.heap.get? cell=some o:=(I.hok cell _ hcell).1;have e0:=I.env0
 have nf:cell∉frs X.stack:=λz=>by
  have:=e0.frf cell z;rw[hcell]at this;cases this
 have e0':Env0 X.prog X.w X.K X.mg X.base X.A X.stack s (bN H cell):=⟨e0.frames,e0.mod,λb ob e=>⟨(e0.bs b ob e).1,by
  by_cases z:b=cell
  ·rw[z];exact cH
  ·rw[bt z];exact(e0.bs b ob e).2⟩,e0.bsz,e0.funs,λb hb=>by
  by_cases z:b=cell
  ·rw[z];exact cH
  rw[bt z];exact e0.frf b hb,e0.hok.drop hcell,e0.bare⟩
 refine wpAny_call (codeAny_mono (vT (E:=E0) S hr e0' rx ry ⟨o,eo,hd⟩ cH ef ec (hb pm ctv u) (body X.A X.stack s (bN H cell)) q) λr s' hq=>?_)
 cases r with
 | error e=>exact False.elim hq
 | ok fl =>
 cases fl with
 | ret u =>
  obtain⟨v,H',os,bare,un,hok,rv,qv⟩:=hq;obtain⟨un',n',e'⟩:=un.back hcell eo nf (by simp);exact I.after ⟨v,_,os,bare,un',hok.take n' e',rv,qv⟩
 | next=>exact False.elim hq
 | brk=>exact False.elim hq
 | cont=>exact False.elim hq
def r_ (P:Program) (w:World) (K:PySem.W.Frag) (mg:A2) (base:Heap) (k i:Nat) (te:TE):TE:=λσ H Q=>∃f l cl c r,σ[i]?=some (some (.ref f))/\Calls P w K mg base k f r/\H f=some (gn f l cl c)/\te σ H λv H1=>H1 f=some (gn f l cl c)/\r v H1 Q
variable {σ:St} {pins:A1} {X:Cx}
theorem mP {l:Lm} (I:Inv X pins σ H s) (h:H f=some (gn f l cl c)):PySem.W.FnAt f s.heap:=by
 obtain⟨pm,ctv,e⟩:=(I.hok f _ h).1;exact⟨_,_,_,_,e⟩
theorem tI {k i:Nat} {e:Expr} {te:TE} {p pos:Pos} (hr:Room k X.A) (hx:iX CX0 X E0) (hn:PE X (.Name n p) (e_ i)) (he:PE X e te) (hs:starEach [e] X.env=[(false,eval e X.env)]:=by rfl) (hs0:starEach ([]:List Expr) X.env=[]:=by rfl) (hpl:(backTo pos (starEach [] X.env)).any (·.1)=false:=by rfl) :
  PE X (.Call (.Name n p) [e] [] pos) (r_ X.prog X.w X.K X.mg X.base k i te):=by
 intro pins s σ H Q I h;obtain⟨f,l,cl,c,r,hi,C,hf,h⟩:=h;refine wpAny_Call_Name_kw (thn (hn pins s σ H (λv H1=>v=.ref f/\H1=H) I ⟨_,hi,rfl,rfl⟩) λu s1 ⟨v,H1,I1,ru,ev,eh⟩=>?_);subst ev eh;obtain rfl:u=Value.ref f:=ru;refine PySem.W.callWith_F (mP I1 hf) ?_ (by rw[hs,hs0]) hpl;rw[hs];refine Calls.spliced_cons (thn (he pins s1 σ H1 _ I1 h) λiv s2 ⟨v,H2,I2,rv,hf2,q⟩=>?_);refine Calls.spliced_nil ⟨mP I2 hf2,?_⟩;exact C X rfl rfl rfl rfl rfl hx hr pins s2 σ H2 v iv Q I2 rv q
theorem Inv.cellAt {i:Nat} {vy:V} (I:Inv X pins σ H s) (hN:X.N[i]?=some y) (hi:σ[i]?=some (some vy)) (hk:X.env.kindOf y=some .cell) (hv:Vis X.env.scope y) (hl:X.env.cells.lookup y=some cell) :
  ∃o uy,s.heap.get? cell=some o/\o.data=.cell (some uy)/\aN vy uy/\H cell=none:=by
 obtain⟨m,_,loc⟩:=I.loc;obtain⟨u,ru,lk⟩:=loc i y vy hN hi hv;rcases lk with⟨k,_⟩|⟨_,c,e,o,e1,e2⟩
 ·rw[hk]at k;cases k
 rw[hl]at e;cases e;exact⟨o,u,e1,e2,ru,I.freeC y cell hl⟩
theorem Inv.cellOut (I:Inv X pins σ H s) (hf:X.fn y=true) (hl:X.env.cells.lookup y=some cell):cell∉frs X.stack:=λz=>by
 have ab:=I.ok.cab y cell hf hl
 have no:cell∉frs X.outer:=λz=>by
  obtain⟨_,o,ho,_⟩:=I.ok.funs.mem z;exact absurd (Qt ho) (Nat.not_lt.mpr ab)
 rcases I.ok.stk with e|⟨e,fr⟩
 ·rw[e]at z;exact no z
 rw[e]at z;unfold frs at z;rw[List.filterMap_cons,fr]at z;rcases Qj.mp z with z|z
 ·exact I.cne y cell hl z
 exact no z
def xy (sp:Sp) (i:Nat) (cell:Addr) (t:TA):TE:=λσ H Q=>t σ H λvs H1=>∃vy,σ[i]?=some (some vy)/\∀o uy,o.data=.cell (some uy)->aN vy uy->H1 cell=none->sp vs (upd H1 cell (c_ o)) (λv H2=>Q v (bN H2 cell)) E0
variable {ps loose:List Str}
theorem xO {k i:Nat} {sp:Sp} {e:Expr} {es:List Expr} {t:TA} {p pos:Pos} (F:Fn X.prog X.w X.K X.mg X.base x ps k sp) (hr:Room k X.A) (hg:Gl X x) (ha:PA X (e::es) t)
  (hN:X.N[i]?=some y) (hky:X.env.kindOf y=some .cell) (hv:Vis X.env.scope y) (hl:X.env.cells.lookup y=some cell) (hfn:X.fn y=true)
  (hdb:(x==("__debug__" : Str))=false:=by decide) (he:starEach (e::es) X.env=(false,eval e X.env)::starEach es X.env:=by rfl) (hpl:(backTo pos (starEach es X.env)).any (·.1)=false:=by rfl) :
  PE X (.Call (.Name x p) (e::es) [] pos) (xy sp i cell t):=by
 obtain⟨f,fd,G,hm,hk,hb⟩:=F.ex;intro pins s σ H Q I h;refine wpAny_Call_Name_kw (kJ I hg hm ?_ hdb);refine PySem.W.callWith_K (h₀:=X.base) I.ok.mod.kin hk (thn (ha pos pins s σ H _ I h) λus s1 ⟨vs,H1,I1,r,q⟩=>⟨I1.kIn,?_⟩) he hpl;obtain⟨vy,hi,q⟩:=q;obtain⟨o,uy,e1,e2,ry,hn⟩:=I1.cellAt hN hi hky hv hl;have nf:=I1.cellOut hfn hl;have ab:=I1.ok.cab y cell hfn hl;have e0:=I1.env0
 have e0':Env0 X.prog X.w X.K X.mg X.base X.A X.stack s1 (upd H1 cell (c_ o)):=⟨e0.frames,e0.mod,λb ob e=>⟨(e0.bs b ob e).1,by
  rw[ah]
  ·exact(e0.bs b ob e).2
  ·intro z;have:=Qt (I1.ok.bs b ob e).1;rw[z]at this
   exact absurd this (Nat.not_lt.mpr ab)⟩,e0.bsz,e0.funs,λb hb=>by
  rw[ah]
  ·exact e0.frf b hb
  intro z;rw[z]at hb;exact nf hb,e0.hok.take hn e1,e0.bare⟩
 have hl2:us.length=ps.length:=by rw[<-r.length];exact G.len _ _ _ _ (q o uy e2 ry hn)
 refine wpAny_call (codeAny_mono (G.run X.A X.stack s1 _ ⟨us,[]⟩ us vs _ E0 hr e0' (by have:=hb s1 us I1.kIn (by rw[XG];exact hl2);rwa [XG]at this) r (q o uy e2 ry hn)) λrr s' hq=>?_)
 cases rr with
 | error e=>exact False.elim hq
 | ok fl =>
 cases fl with
 | ret u =>
  obtain⟨v,H',os,bare,un,hok,rv,qv⟩:=hq;obtain⟨un',hok',_⟩:=un.out hok hn e1 nf;exact I1.after ⟨v,_,os,bare,un',hok',rv,qv⟩
 | next=>exact False.elim hq
 | brk=>exact False.elim hq
 | cont=>exact False.elim hq
structure FunC (K:PySem.W.Frag) (x qual:Str) (st:Stmt) (f:Addr) (fd:FuncData) (c:Addr):Prop where
 ex:∃oc od kV doc pm an ct osl,fd=PySem.W.fnOf x qual (cL st) (bV st) (aw st) .none kV doc pm an (.ref c) ct/\K.lookup f=some ⟨oc,od,.func (PySem.W.fnOf x qual (cL st) (bV st) (aw st) .none kV doc pm an (.ref c) ct),osl⟩/\PySem.W.codeIn K (.ref c) qual=true
section
variable {P:Program} {w:World} {K:PySem.W.Frag} {mg:A2} {base:Heap}
theorem FunC.ok {x qual:Str} {st:Stmt} {f c:Addr} {fd:FuncData} {N ps:List Str} {k:Nat} {sp:Sp} (F:FunC K x qual st f fd c) (S:FnScope N ps (aw st)) (len:∀vs H Q E,sp vs H Q E->vs.length=ps.length)
  (hbody:∀(A:Around) (outer:List Env) (s:Shared) (H:Hp) (vs:List V) (Q:VK) (E:XK),Room k (A.deeper (envOfC qual (aw st) s.heap.objs.size f (.ref c)))->sp vs H Q E ->
   ∃t,PSs (cxOf CX0 P w K mg base N qual (aw st) f (.ref c) A outer s H E).nox (bV st) t/\t { nx:=λ_ H'=>Q .non H',rt:=Q } (start N vs) H):FnOk P w K mg base CX0 (k+1) f fd ps sp:=by
 obtain⟨oc,od,kV,doc,pm,an,ct,osl,rfl,lk,hcd⟩:=F.ex;refine xc lk hcd S len λA outer s H vs Q E hr hsp=>?_;obtain⟨t,h,q⟩:=hbody A outer s H vs Q E hr hsp;exact⟨t,h.nox,q⟩
end
structure OnlyT (tabs:List (Addr × Addr)) (H:Hp):Prop where
 tab:∀q∈tabs,H q.2=some (.tbl #[])
 other:∀b,b∉tabs.map (·.2)->H b=none\/∃o xs,H b=some (.frz o (.lst xs))
theorem rc {P:Program} {w:World} {K:PySem.W.Frag} {mg mb:A2} {CX:CXT} {k:Nat} {fd:FuncData} {sp:Sp} {vs:List Value} {ns:List Int} {tabs:List (Addr × Addr)}
  (KX:K.In s₁.heap) (hns:s₁.heap.Ns mainGlobals mg) (hb:s₁.heap.Ns builtinsNs mb) (hbb:∀x:Str,x ≠ "__name__" -> mb x=bootBuiltins x) (hlim:s₁.heap.NoLimit) (hg:s₁.gens=#[])
  (hbm:eY s₁.heap mg) (hT:PySem.W.TabsAt tabs s₁.heap) (hTK:∀q∈tabs,K.lookup q.2=none)
  (ha:s₁.heap.get? a=some { cls:=.type "list", data:=.seq vs.toArray }) (hi:IntsAre vs ns) (hl:ns.length<=sizeLine) (hr:Room k callerA)
  (F:∀base:Heap,K.In base->base.Ns mainGlobals mg->eY base mg->FnOk P w K mg base CX k fa fd [x] sp) (hbind:∀(s:Shared) (u:Value),BindsTo s fd ⟨[u],[]⟩ [(x,u)])
  (hsp:∀H:Hp,OnlyT tabs H->SqL K H a (ns.map V.int)->sp [.ref a] H (λv _=>v=.bl true) λ_ _ _=>False)
  (hCX:∀H e s',CX [] H s₁ (λ_ _ _=>False) e s'->False) :
  codeAny (model P w) callerA (.call (.ref fa) ⟨[.ref a],[]⟩) (λr s'=>r=.ok (.ret (.bool true))/\OldK s₁.heap s'.heap/\s'.os=s₁.os/\AllBare s'.gens) s₁:=by
 have rv:=jc hi;have lenV:=hi.length
 have naT:a∉tabs.map (·.2):=λq=>by
  obtain⟨r,hr,e⟩:=Ql.mp q;have e2:=(hT r hr).2;rw[e,ha]at e2;cases e2
 have core:∀H:Hp,OnlyT tabs H->SqL K H a (ns.map V.int)->HOk P w H s₁.heap->(∀b,H b≠none->b=a\/b∈tabs.map (·.2))->(H a≠none->K.lookup a=none) ->
   codeAny (model P w) callerA (.call (.ref fa) ⟨[.ref a],[]⟩) (λr s'=>r=.ok (.ret (.bool true))/\OldK s₁.heap s'.heap/\s'.os=s₁.os/\AllBare s'.gens) s₁:=by
  intro H hO hS hok hA hK;have base_of:∀{b:Addr} {o:Obj},s₁.heap.get? b=some o->H b=none->(i7 s₁.heap H).get? b=some o:=λe n=>uw e n
  have noA:∀{b:Addr} {o:Obj},s₁.heap.get? b=some o->(∀ps n,o.data≠.seq ps n)->(∀ps,o.data≠.fields ps)->H b=none:=λ{b o} e d1 d2=>by
   cases q:H b with
   | none=>rfl
   | some u =>
   rcases hA b (by rw[q];simp) with e'|e'
   ·subst e';rw[ha]at e;cases e;exact absurd rfl (d1 _ _)
   obtain⟨r,hr,er⟩:=Ql.mp e';have e2:=(hT r hr).2;rw[er,e]at e2;cases e2;exact absurd rfl (d2 _)
  have nsK:∀{b:Addr} {m:A2},s₁.heap.Ns b m->(i7 s₁.heap H).Ns b m:=λ{b m} ⟨o,es,ep,e,d,r⟩=>⟨o,es,ep,base_of e (noA e (λ_ _ z=>by rw[d]at z;cases z) (λ_ z=>by rw[d]at z;cases z)),d,r⟩
  have hKb:K.In (i7 s₁.heap H):=λb o e=>base_of (KX b o e) (by
   cases q:H b with
   | none=>rfl
   | some u =>
   rcases hA b (by rw[q];simp) with e'|e'
   ·subst e';rw[hK (by rw[q];simp)]at e;cases e
   obtain⟨r,hr,er⟩:=Ql.mp e';have e2:=hTK r hr;rw[er,e]at e2
   cases e2)
  have hM:Mod K mg (i7 s₁.heap H):=⟨hKb,nsK hns,⟨mb,nsK hb,hbb⟩,let ⟨mc,h1,h2⟩:=hlim;⟨mc,nsK h1,h2⟩⟩
  have hB:eY (i7 s₁.heap H) mg:=by
   obtain⟨bm,ob,b1,b2,b3,b4,b5,b6,b7⟩:=hbm;exact⟨bm,ob,b1,b2,b3,base_of b4 (noA b4 (λ_ _ z=>by rw[b7]at z;cases z) (λ_ z=>by rw[b7]at z;cases z)),b5,b6,b7⟩
  have e0:Env0 P w K mg (i7 s₁.heap H) callerA [] s₁ H:=⟨rfl,hM,λb o e=>vI e,Nat.le_of_eq (rp _ _),trivial,λb hb=>absurd (show b∈([]:A3) from hb) (by simp),hok,.of_eq hg⟩;refine codeAny_mono ((F _ hKb (nsK hns) hB).run callerA [] s₁ H ⟨[.ref a],[]⟩ [.ref a] [.ref a] _ _ hr e0 (hbind s₁ (.ref a)) (.cons rfl .nil) (hsp H hO hS)) λr s' h=>?_
  cases r with
  | error e=>exact(hCX H e s' h).elim
  | ok fl =>
  cases fl with
  | next=>exact False.elim h
  | brk=>exact False.elim h
  | cont=>exact False.elim h
  | ret u =>
  obtain⟨v,H',os,bare,un,hok',r',q⟩:=h;have q':v=.bl true:=q;subst q';obtain rfl:u=Value.bool true:=r';refine⟨rfl,⟨λb o e=>?_,λb o e=>un.there b o e (by simp)⟩,os,bare⟩
  cases q:H b with
  | none=>exact .inl (un.keep b o e q (by intro z;exact absurd (show b∈([]:A3) from z) (by simp)) (by simp))
  | some u =>
  by_cases hb:b∈tabs.map (·.2)
  ·obtain⟨r,hr,er⟩:=Ql.mp hb;have t1:=hO.tab r hr;have e2:=(hT r hr).2;have ict:=((hT r hr).1.tab (hT r hr).2).isCodeTable;rw[er]at t1 e2 ict;rw[e]at e2;cases e2;obtain⟨more,t2⟩:=un.tbls b _ t1;have t3:s'.heap.get? b=some { cls:=.none,data:=.fields (#[]++more) }:=hok' b _ t2;exact .inr (.inl ⟨ict,rfl,#[],more,rfl,t3⟩)
  rcases hO.other b hb with z|⟨ob,xs,z⟩
  ·rw[q]at z;cases z
  have z2:=un.frzs b ob _ z;obtain⟨e1,_⟩:=hok b _ z;obtain⟨e2,_⟩:=hok' b _ z2;rw[e]at e1;cases e1;exact .inl e2
 let HT:Hp:=λb=>if b∈tabs.map (·.2) then some (.tbl #[]) else none
 have htab:∀b,b∈tabs.map (·.2)->s₁.heap.get? b=some (PySem.W.tabObj #[]):=λb hb=>by
  obtain⟨r,hr,er⟩:=Ql.mp hb;rw[<-er];exact(hT r hr).2
 cases hk:K.lookup a with
 | some o =>
  have e:=KX a o hk;rw[ha]at e;cases e;refine core HT ⟨λq hq=>Qs (Ql.mpr ⟨q,hq,rfl⟩),λb hb=>.inl (Qn hb)⟩ (.inr ⟨_,vs.toArray,_,hk,rfl,rfl,rfl,by rw[Qk,lenV];exact hl,by simpa using rv⟩) (λb u z=>?_) (λb z=>?_) λz=>absurd (Qn naT) z
  ·by_cases hb:b∈tabs.map (·.2)
   ·have z':=(Qs hb).symm.trans z;cases z';exact htab b hb
   have z':=(Qn hb).symm.trans z;cases z'
  by_cases hb:b∈tabs.map (·.2)
  ·exact .inr hb
  exact absurd (Qn hb) z
 | none =>
 let HA:Hp:=λb=>if b=a then some (.frz { cls:=.type "list", data:=.seq vs.toArray } (.lst (ns.map V.int))) else HT b;have hA1:HA a=some (.frz { cls:=.type "list", data:=.seq vs.toArray } (.lst (ns.map V.int))):=Qs rfl;have hA2:∀b,b≠a->HA b=HT b:=λb h=>Qn h;refine core HA ⟨λq hq=>?_,λb hb=>?_⟩ (.inl (.inr ⟨{ cls:=.type "list", data:=.seq vs.toArray },hA1⟩)) (λb u z=>?_) (λb z=>?_) λ_=>hk
 ·rw[hA2 _ λz=>naT (Ql.mpr ⟨q,hq,z⟩)];exact Qs (Ql.mpr ⟨q,hq,rfl⟩)
 ·by_cases hba:b=a
  ·subst hba;exact .inr ⟨_,_,hA1⟩
  rw[hA2 b hba];exact .inl (Qn hb)
 ·by_cases hba:b=a
  ·subst hba;rw[hA1]at z;cases z;exact⟨ha,by rw[Qd];exact hl,vs,_,rv,ha⟩
  rw[hA2 b hba]at z;by_cases hb:b∈tabs.map (·.2)
  ·have z':=(Qs hb).symm.trans z;cases z';exact htab b hb
  have z':=(Qn hb).symm.trans z;cases z'
 by_cases hba:b=a
 ·exact .inl hba
 rw[hA2 b hba]at z;by_cases hb:b∈tabs.map (·.2)
 ·exact .inr hb
 exact absurd (Qn hb) z
theorem uS {p:Program} {mean:ExcName->Option Value} {mg mb:A2} (T:Top p loose mean mg mb h):eY h mg:=by
 obtain⟨bm,ob,b1,b2,b3,b4,b5,b6⟩:=T.bmain;refine⟨bm,ob,b1,b2,λq=>?_,b3,b4,b5,b6⟩;obtain⟨o,es,ep,e,hd,_⟩:=T.g;rw[q,e]at b3;cases b3;rw[hd]at b6;cases b6
variable {XP:A2->Heap->Prop} {l:PySem.W.OpenLaw}
theorem rP {n k:Nat} {q:Program} {YP:World->Heap->Prop} {d:DefRec} {K:Params->PySem.W.Frag} {CX:World->CXT} {sp:World->Sp} (tabs:World->List (Addr × Addr))
  (hn:l.most=some n) (hn2:n<=sizeLine) (hdf:d.params.defaults=[]) (hr:Room k callerA)
  (hY:∀(w:World) (h:Heap),YP w h->(K w.params).In h) (hY2:∀(w:World) (h:Heap),YP w h->PySem.W.TabsAt (tabs w) h) (hTK:∀(w:World),∀q∈tabs w,(K w.params).lookup q.2=none)
  (F:∀(w:World) (mg:A2) (fa:Addr) (h:Heap),(K w.params).In h->h.Ns mainGlobals mg->mg d.name=some (.ref fa) ->
   ∃fd:FuncData,(∀(s:Shared) (u:Value),BindsTo s fd ⟨[u],[]⟩ [(x,u)]) /\
    ∀base:Heap,(K w.params).In base->base.Ns mainGlobals mg->eY base mg->FnOk l.prog w (K w.params) mg base (CX w) k fa fd [x] (sp w))
  (hsp:∀(w:World) (H:Hp) (a:Addr) (ns:List Int),ns.length<=n->OnlyT (tabs w) H->SqL (K w.params) H a (ns.map V.int)->sp w [.ref a] H (λv _=>v=.bl true) λ_ _ _=>False)
  (hCX:∀(w:World) (H:Hp) (s:Shared) (e:Value) (s':Shared),CX w [] H s (λ_ _ _=>False) e s'->False) :
  PySem.W.WalkO q loose XP YP l.row.toRowW d [] (λf vs=>PySem.call f vs):=by
 refine Att.m8 hn hdf λw s₀ s₁ mg mb fa o pm cd doc a vs ns G Y ho hd hcd hmg hobj hints hlen hg=>?_;have KX:=hY w _ Y;obtain⟨fd,hb,hF⟩:=F w mg fa _ KX G.T.g hmg;exact rc KX G.T.g G.T.b G.T.builtins G.T.nolimit hg (uS G.T) (hY2 w _ Y) (hTK w) hobj hints (QQ hlen hn2) hr hF hb (λH hO hS=>hsp w H a ns hlen hO hS) λH e s'=>hCX w H s₁ e s'
def oi (K:PySem.W.Frag) (ts:A3):List (Addr × Addr):=ts.flatMap λT=>(K.filter λp=>PySem.W.codeHdIn K p.1 T).map λp=>(p.1,T)
def fL (K:PySem.W.Frag) (ts:A3):Bool:=ts.all λT=>(K.any λp=>PySem.W.codeHdIn K p.1 T)&&(K.lookup T).isNone
variable {ts as:A3}
theorem iz {K:PySem.W.Frag} {q:Addr × Addr} (h:q∈oi K ts):q.2∈ts/\PySem.W.codeHdIn K q.1 q.2=true:=by
 obtain⟨T,hT,h⟩:=List.mem_flatMap.mp h;obtain⟨p,hp,rfl⟩:=Ql.mp h;exact⟨hT,(QP.mp hp).2⟩
theorem oh {K:PySem.W.Frag} (ok:fL K ts=true) (hT:T∈ts):∃c,(c,T)∈oi K ts:=by
 have h:=QX.mp ok T hT;rw[Xr]at h;obtain⟨p,hp,e⟩:=List.any_eq_true.mp h.1;exact⟨p.1,List.mem_flatMap.mpr ⟨T,hT,Ql.mpr ⟨p,QP.mpr ⟨hp,e⟩,rfl⟩⟩⟩
theorem og {K:PySem.W.Frag} (ok:fL K ts=true) (hT:T∈ts):K.lookup T=none:=by
 have h:=QX.mp ok T hT;rw[Xr]at h;exact Option.isNone_iff_eq_none.mp h.2
theorem rQ {n k:Nat} {q:Program} {d:DefRec} {K:Params->PySem.W.Frag} {e:∀P,as=(K P).map (·.1)} {CX:World->CXT} {sp:World->Sp}
  (hn:l.most=some n) (hn2:n<=sizeLine) (hdf:d.params.defaults=[]) (hr:Room k callerA) (ok:∀w:World,fL (K w.params) ts=true)
  (F:∀(w:World) (mg:A2) (fa:Addr) (h:Heap),(K w.params).In h->h.Ns mainGlobals mg->mg d.name=some (.ref fa) ->
   ∃fd:FuncData,(∀(s:Shared) (u:Value),BindsTo s fd ⟨[u],[]⟩ [(x,u)]) /\
    ∀base:Heap,(K w.params).In base->base.Ns mainGlobals mg->eY base mg->FnOk l.prog w (K w.params) mg base (CX w) k fa fd [x] (sp w))
  (hsp:∀(w:World) (H:Hp) (a:Addr) (ns:List Int),ns.length<=n->(∀T∈ts,H T=some (.tbl #[]))->SqL (K w.params) H a (ns.map V.int)->sp w [.ref a] H (λv _=>v=.bl true) λ_ _ _=>False)
  (hCX:∀(w:World) (H:Hp) (s:Shared) (e:Value) (s':Shared),CX w [] H s (λ_ _ _=>False) e s'->False) :
  PySem.W.WalkO q loose XP (PySem.W.kmHook K as e ts).says l.row.toRowW d [] (λf vs=>PySem.call f vs):=by
 refine rP (λw=>oi (K w.params) ts) hn hn2 hdf hr (λw h Y=>PySem.W.km_in_of Y) (λw h Y q hq=>?_) (λw q hq=>og (ok w) (iz hq).1) F (λw H a ns h1 hO hS=>hsp w H a ns h1 (λT hT=>?_) hS) hCX
 ·obtain⟨h1,h2⟩:=iz hq;exact⟨PySem.W.codeHd_of_K (PySem.W.km_in_of Y) h2,PySem.W.km_tabs_of Y _ h1⟩
 obtain⟨c,hc⟩:=oh (ok w) hT;exact hO.tab _ hc
def Fz:HO->Prop
 | .dK _=>True
 | .dT _=>True
 | .lst _=>True
 | _=>False
def back (H:Hp) (a:Addr) (H':Hp):Hp:=λb=>if b=a then H a else H' b
theorem gk:back H a H' a=H a:=Qs rfl
theorem bK (h:b≠a):back H a H' b=H' b:=Qn h
section
variable {X:Cx} {pins:A1} {σ σ':St} {H H':Hp} {s s':Shared} {a:Addr} {u:HO} {o:Obj}
theorem ko (r:Rd H a u):∃v,H a=some v:=by
 rcases r with r|⟨o,r⟩ <;> exact⟨_,r⟩
theorem wR (r:Rd H a u) (f:Fz u):(∀xs,H a≠some (.tup xs))/\(∀ps,H a≠some (.tbl ps))/\(∀x,H a≠some (.own x))/\∀ob v,H a=some (.frz ob v)->v=u:=by
 rcases r with r|⟨o,r⟩
 ·refine⟨λxs z=>?_,λps z=>?_,λx z=>?_,λob v z=>?_⟩ <;> (rw[r]at z;cases z;exact f.elim)
 refine⟨λxs z=>?_,λps z=>?_,λx z=>?_,λob v z=>?_⟩ <;> (rw[r]at z;cases z);rfl
theorem Inv.freeze (I:Inv X pins σ H s) (r:Rd H a u) (f:Fz u) (e:s.heap.get? a=some o):Inv X pins σ (upd H a (.frz o u)) s:=by
 obtain⟨v,hv⟩:=ko r;obtain⟨n1,n2,n3,n4⟩:=wR r f;have ne:∀{b},H b=none->b≠a:=λh z=>by rw[z,hv]at h;cases h
 have ok:=r.ok I.hok;refine⟨I.ok,I.os,I.bare,⟨I.base.keep,I.base.slot,λb ob q n hx=>?_,I.base.there,λb xs q=>?_,λb ob w q=>?_,λb ps q=>?_⟩,I.loc,I.cell,?_,λx c h=>?_,λp hp=>?_,λb w q=>?_,I.len⟩
 ·have:=I.base.free b ob q n hx;rw[ah (ne this)];exact this
 ·have:=I.base.tups b xs q;rw[ah (λz=>n1 xs (by rw[<-z];exact this))];exact this
 ·have z:=I.base.frzs b ob w q;by_cases hb:b=a
  ·subst hb;have ew:=n4 ob w z;subst ew;obtain⟨e1,_⟩:=I.hok b _ z;rw[e]at e1;cases e1;exact ag
  rw[ah hb];exact z
 ·obtain⟨more,z⟩:=I.base.tbls b ps q;exact⟨more,by rw[ah (λy=>n2 _ (by rw[<-y];exact z))];exact z⟩
 ·rw[ah (ne I.free)];exact I.free
 ·rw[ah (ne (I.freeC x c h))];exact I.freeC x c h
 ·obtain⟨p1,p2,p3,p4,p5⟩:=I.pin p hp;exact⟨p1,by rw[ah (ne p2)];exact p2,p3,p4,p5⟩
 have st:∀{b w},bp X.prog X.w H s.heap b w->bp X.prog X.w (upd H a (.frz o u)) s.heap b w:=λh=>h.stay (λ_ _ _ q=>q) (λd q=>by rw[ah (λz=>n3 _ (by rw[<-z];exact q))];exact q) λd xs q=>by rw[ah (λz=>n1 _ (by rw[<-z];exact q))];exact q
 by_cases hb:b=a
 ·subst hb;rw[ag]at q;cases q;exact⟨e,st ok⟩
 rw[ah hb]at q;exact st (I.hok b w q)
theorem Inv.thaw (I:Inv X pins σ H s) (r:Rd H a u) (f:Fz u) (e:s.heap.get? a=some o) (J:Inv X pins σ' H' s') (h':H' a=some (.frz o u)):Inv X pins σ' (back H a H') s':=by
 obtain⟨v,hv⟩:=ko r;obtain⟨n1,n2,n3,n4⟩:=wR r f;have ne:∀{b},H' b=none->b≠a:=λh z=>by rw[z,h']at h;cases h
 have ok:=J.hok a _ h';refine⟨J.ok,J.os,J.bare,⟨J.base.keep,J.base.slot,λb ob q n hx=>?_,J.base.there,λb xs q=>?_,λb ob w q=>?_,λb ps q=>?_⟩,J.loc,J.cell,?_,λx c h=>?_,λp hp=>?_,λb w q=>?_,J.len⟩
 ·have:=J.base.free b ob q n hx;rw[bK (ne this)];exact this
 ·have:=J.base.tups b xs q;rw[bK (λz=>by rw[z,h']at this;cases this)];exact this
 ·by_cases hb:b=a
  ·subst hb;rw[gk];exact I.base.frzs b ob w q
  rw[bK hb];exact J.base.frzs b ob w q
 ·obtain⟨more,z⟩:=J.base.tbls b ps q;exact⟨more,by rw[bK (λy=>by rw[y,h']at z;cases z)];exact z⟩
 ·rw[bK (ne J.free)];exact J.free
 ·rw[bK (ne (J.freeC x c h))];exact J.freeC x c h
 ·obtain⟨p1,p2,p3,p4,p5⟩:=J.pin p hp;exact⟨p1,by rw[bK (ne p2)];exact p2,p3,p4,p5⟩
 have st:∀{b w},bp X.prog X.w H' s'.heap b w->bp X.prog X.w (back H a H') s'.heap b w:=λh=>h.stay (λ_ _ _ q=>q) (λd q=>by rw[bK (λz=>by rw[z,h']at q;cases q)];exact q) λd xs q=>by rw[bK (λz=>by rw[z,h']at q;cases q)];exact q
 by_cases hb:b=a
 ·subst hb;rw[gk]at q;rcases r with r|⟨o2,r⟩
  ·rw[r]at q;cases q;exact st ok.2
  obtain⟨e2,_⟩:=I.hok b _ r;rw[e]at e2;cases e2;rw[r]at q;cases q;exact⟨ok.1,st ok.2⟩
 rw[bK hb]at q;exact st (J.hok b w q)
noncomputable def wG (D:Ends) (H:Hp) (a:Addr) (o:Obj) (u:HO):Ends where
 nx:=λσ' H'=>H' a=some (.frz o u)/\D.nx σ' (back H a H')
 bk:=λσ' H'=>H' a=some (.frz o u)/\D.bk σ' (back H a H')
 ct:=λσ' H'=>H' a=some (.frz o u)/\D.ct σ' (back H a H')
 rt:=λv H'=>H' a=some (.frz o u)/\D.rt v (back H a H')
def yK (t:TS):TS:=λD σ H=>∃a u,Rd H a u/\Fz u/\∀o,t (wG D H a o u) σ (upd H a (.frz o u))
theorem xJ {st:Stmt} {t:TS} (h:PS X st t):PS X st (yK t):=by
 intro pins s σ H D I q;obtain⟨a,u,r,f,q⟩:=q;obtain⟨v,hv⟩:=ko r
 obtain⟨o,e⟩:∃o,s.heap.get? a=some o:=by
  rcases r with r|⟨o,r⟩
  ·have:=(I.hok a _ r)
   cases u with
   | lst xs=>obtain⟨_,_,_,_,e⟩:=this;exact⟨_,e⟩
   | dK kvs=>obtain⟨_,_,_,_,o,_,_,e,_⟩:=this;exact⟨_,e⟩
   | dT kvs=>obtain⟨_,_,_,_,o,_,_,e,_⟩:=this;exact⟨_,e⟩
   | _=>exact f.elim
  exact⟨o,(I.hok a _ r).1⟩
 refine XV (h pins s σ _ _ (I.freeze r f e) (q o)) (λfl s' z=>?_) λ_ _ z=>z
 cases fl with
 | next=>obtain⟨σ',H',J,h1,h2⟩:=z;exact⟨σ',_,I.thaw r f e J h1,h2⟩
 | brk=>obtain⟨σ',H',J,h1,h2⟩:=z;exact⟨σ',_,I.thaw r f e J h1,h2⟩
 | cont=>obtain⟨σ',H',J,h1,h2⟩:=z;exact⟨σ',_,I.thaw r f e J h1,h2⟩
 | ret w=>obtain⟨v,σ',H',J,rv,h1,h2⟩:=z;exact⟨v,σ',_,I.thaw r f e J h1,rv,h2⟩
def yJ (t:TE):TE:=λσ H Q=>∃a u,Rd H a u/\Fz u/\∀o,t σ (upd H a (.frz o u)) λv H'=>H' a=some (.frz o u)/\Q v (back H a H')
theorem xN {ex:Expr} {t:TE} (h:PE X ex t):PE X ex (yJ t):=by
 intro pins s σ H Q I q;obtain⟨a,u,r,f,q⟩:=q
 obtain⟨o,e⟩:∃o,s.heap.get? a=some o:=by
  rcases r with r|⟨o,r⟩
  ·have:=(I.hok a _ r)
   cases u with
   | lst xs=>obtain⟨_,_,_,_,e⟩:=this;exact⟨_,e⟩
   | dK kvs=>obtain⟨_,_,_,_,o,_,_,e,_⟩:=this;exact⟨_,e⟩
   | dT kvs=>obtain⟨_,_,_,_,o,_,_,e,_⟩:=this;exact⟨_,e⟩
   | _=>exact f.elim
  exact⟨o,(I.hok a _ r).1⟩
 refine XV (h pins s σ _ _ (I.freeze r f e) (q o)) (λv s' z=>?_) λ_ _ z=>z;obtain⟨v',H',J,rv,h1,h2⟩:=z;exact⟨v',_,I.thaw r f e J h1,rv,h2⟩
end
def Itd (a:Addr) (o:Obj) (kvs:List (Key × V)):It :=
 ⟨λi H=>H a=some (.frz o (.dK kvs))/\i<kvs.length,λi H x H'=>H'=H/\∃k v,kvs[i]?=some (k,v)/\x=kV k,λi H=>H a=some (.frz o (.dK kvs))/\kvs.length<=i⟩
theorem zF {P:Program} {w:World} {k:Key} (h:(au P w).is k u=true):aN (kV k) u:=by
 rcases aK (show db k u=true from h) with⟨i,t,rfl,rfl⟩|⟨x,t,rfl,rfl⟩
 ·exact⟨t,rfl⟩
 exact⟨t,rfl⟩
theorem KV.len {κ:Type} {xs:List (κ × V)} {ys:List (κ × Value)} (r:KV xs ys):xs.length=ys.length:=Xk r
theorem KV.get {κ:Type}:∀{xs:List (κ × V)} {ys:List (κ × Value)} {i:Nat} {k:κ} {v:V},KV xs ys->xs[i]?=some (k,v)->∃u,ys[i]?=some (k,u)/\aN v u
 | _,_,_,_,_,.nil,e=>by simp at e
 | _,(k',u)::_,0,k,v,.cons r _,e=>by
  simp at e;subst e;obtain⟨r1,r2⟩:=r;have r1:k=k':=r1;subst r1;exact⟨u,rfl,r2⟩
 | _,_,i+1,k,v,.cons _ t,e=>by
  obtain⟨u,h1,h2⟩:=KV.get (i:=i) t (by simpa using e);exact⟨u,by simpa using h1,h2⟩
variable {kvs:List (Key × V)}
theorem fo {o:Obj} {es:Array DictEntry} {ep:Nat} (I:Inv X pins σ H s) (h:H a=some (.frz o (.dK kvs))) (hd:o.data=.dict es ep) :
  ∃vs,KV kvs vs/\s.heap.DictAt (au X.prog X.w) a vs ep/\(a==sysModules)=false:=by
 obtain⟨e1,z,y,vs,rel,ob,es',ep',e2,c,d,r⟩:=I.hok a _ h;rw[e1]at e2;cases e2;rw[hd]at d;cases d;exact⟨vs,rel,⟨o,es,e1,c,hd,r⟩,y⟩
theorem qF {P:Program} {w:World} {K:PySem.W.Frag} {tg:Expr} (a it:Addr) (o:Obj) (kvs:List (Key × V)) (es:Array DictEntry) (ep:Nat) (hd:o.data=.dict es ep):Turn P w K tg (Itd a o kvs) [it] it (λi h=>h.IsKeyIter it a i kvs.length ep) where
 mem:=by simp
 obj:=λi h st b hb=>by
  have e:b=it:=by simpa using hb
  subst e;obtain⟨ob,e,c,d⟩:=st;exact⟨ob,e,λv z=>by rw[d]at z;cases z⟩
 keep:=λi h h' st k=>st.at λo e=>k it (by simp) o e
 item:=by
  intro X hP hw hK hc i pins s σ H E I hf st hg;subst hP hw hK;obtain⟨hz,hi⟩:=hg;obtain⟨vs,rel,da,_⟩:=fo I hz hd;obtain⟨⟨k,v⟩,hx⟩:∃p,kvs[i]?=some p:=⟨kvs[i],by simp[hi]⟩;obtain⟨u,hu,ru⟩:=rel.get hx;obtain⟨f0,f1,f2,f3,f4,f5⟩:=hf it (by simp);have st0:=st;rw[rel.len]at st;refine wpAny_pyNext_dict_item st da hu λkey h' hkey st' sb=>?_;have I1:Inv X pins σ H { s with heap:=h' }:=I.turned (t':=s.toks) (λb o hb e=>(sb.2 b hb).trans e) f0 f1 f3 f4 f5;rw[<-rel.len]at st';obtain⟨ob,e,c,d⟩:=id st';exact⟨key,rfl,p9 (s:={ s with heap:=h' }) e c d (by decide) ⟨kV k,H,I1,zF hkey,⟨rfl,k,v,hx,rfl⟩,st',λb hb=>(hf b hb).1⟩⟩
 done:=by
  intro X hP hw hK hc i pins s σ H E I hf st hg;subst hP hw hK;obtain⟨hz,hi⟩:=hg;obtain⟨vs,rel,da,_⟩:=fo I hz hd;obtain⟨f0,f1,f2,f3,f4,f5⟩:=hf it (by simp);rw[rel.len]at st;exact wpAny_pyNext_dict_end (I.ok.hd hc) st da (QU (by rw[<-rel.len];exact hi)) λh' eb=>⟨rfl,I.turned (t':=s.toks) (λb o hb e=>eb b o hb e) f0 f1 f3 f4 f5⟩
 self:=λ_ _ _ _ _ st h=>wpAny_pyIter_keyiter st h
def uu (tl:TE):TI:=λσ H R=>tl σ H λx H1=>∃a o kvs,x=.ref a/\H1 a=some (.frz o (.dK kvs))/\R (Itd a o kvs) H1
section
variable {X:Cx} {tg:Expr}
theorem tq {l:Expr} {tl:TE} (hl:PE X l tl):PI X tg l (uu tl):=by
 intro pins s σ H R I h;refine thn (hl pins s σ H _ I h) λv s1 ⟨x,H1,I1,r1,q1⟩=>?_;obtain⟨a,o,kvs,e,hz,q⟩:=q1;subst e;cases r1;obtain⟨e1,_,_,vs,rel,ob,es,ep,e2,c,d,r⟩:=I1.hok a _ hz;rw[e1]at e2;cases e2;obtain⟨vs,rel,da,hm⟩:=fo I1 hz d;refine wpAny_pyIter_dict hm da ?_;refine⟨s1.heap.objs.size,[s1.heap.objs.size],_,_,H1,rfl,I1.kept (t':=s1.toks) λb o e=>Qe _ e,qF a _ o kvs es ep d,⟨_,Qy _ rfl,rfl,by rw[rel.len];rfl⟩,λb hb=>?_,q⟩;have e:b=s1.heap.objs.size:=by simpa using hb
 subst e;exact I1.fpOk (Qg _) (I1.hok.fresh (Qg _))
end
theorem ux {o:Obj} {g:TG} {tb:TS} {D:Ends} (Pv:Nat->St->Hp->Prop) (h0:Pv 0 σ H) (hl:∀i σ H,i<=kvs.length->Pv i σ H->H a=some (.frz o (.dK kvs)))
  (hs:∀i k v σ H,kvs[i]?=some (k,v)->Pv i σ H->g (kV k) σ H λσ2 H2=>tb { D with nx:=Pv (i+1),ct:=Pv (i+1),bk:=D.nx } σ2 H2) (hd:∀σ H,Pv kvs.length σ H->D.nx σ H) :
  ∃W:Nat->Nat->St->Hp->Prop,(∃m,W 0 m σ H)/\∀i m σ H,W i m σ H ->
   ((Itd a o kvs).stop i H/\D.nx σ H)\/((Itd a o kvs).go i H/\∃N:St->Hp->Prop,(∀σ' H',N σ' H'->∃m',m'<m/\W (i+1) m' σ' H')/\∀x H',(Itd a o kvs).yld i H x H'->g x σ H' λσ2 H2=>tb { D with nx:=N,ct:=N,bk:=D.nx } σ2 H2):=by
 refine⟨λi m σ H=>m=kvs.length-i/\i<=kvs.length/\Pv i σ H,⟨kvs.length,by simp,QT _,h0⟩,?_⟩;rintro i m σ H ⟨rfl,hi,p⟩;have q:=hl i σ H hi p;by_cases hlt:i<kvs.length
 ·refine .inr ⟨⟨q,hlt⟩,Pv (i+1),λσ' H' p'=>⟨kvs.length-(i+1),by exact om6 hlt,rfl,hlt,p'⟩,λx H' y=>?_⟩;obtain⟨e,k,v,hk,ex⟩:=y;subst e ex;exact hs i k v σ _ hk p
 have e:i=kvs.length:=by exact om0 hi hlt
 subst e;exact .inl ⟨⟨q,Qg _⟩,hd σ H p⟩
def r8 (td ty tx:TE):TE:=λσ H Q=>td σ H λx H1=>∃a,x=.ref a/\IsD H1 a/\ty σ H1 λy H2=>tx σ H2 λz H3=>∃kvs k,H3 a=some (.dK kvs)/\y=kV k /\
 (∀v,aV kvs k=some v->Q v H3)/\(aV kvs k=none->kvs.length<sizeLine/\Q z (upd H3 a (.dK (bq kvs k z))))
section
variable {X:Cx} {o e f:Expr} {apos cpos:Pos} {td ty tx:TE}
theorem tD (ho:PE X o td) (he:PE X e ty) (hf:PE X f tx) (m:M2 X o "setdefault" apos e f cpos):PE X (.Call (.Attribute o "setdefault" apos) [e,f] [] cpos) (r8 td ty tx):=by
 intro pins s σ H Q I h;refine wpAny_Call_method m.base m.few m.line PySem.F.plainAttrs_dict PySem.F.slot_dict_setdefault PySem.F.type_dict_setdefault (thn (ho pins s σ H _ I h) λu s1 ⟨x,H1,I1,rx,a,ex,d,q1⟩=>?_);subst ex;obtain rfl:u=Value.ref a:=rx;obtain⟨t1,t2,_⟩:=ut I1 d;refine⟨t1,t2,?_⟩;rw[m.trees]
 refine Calls.callWith_builtin rfl (Calls.evalArgs_plain (Calls.spliced_cons (thn (he pins s1 σ H1 _ I1 q1) λiv s2 ⟨y,H2,I2,ry,q2⟩ =>
  Calls.spliced_cons (thn (hf pins s2 σ H2 _ I2 q2) λfv s3 ⟨z,H3,I3,rz,kvs,k,ea,ey,q3,q4⟩=>Calls.spliced_nil ?_))))
 subst ey;obtain⟨zl,hd,vs,rel,dd⟩:=uH I3.hok ea
 refine call_meetsIn PySem.F.slot_dict_setdefault dd.typeIs PySem.F.entry_dict_setdefault (PySem.F.args_dict_setdefault_3 _ _ _) (kt_meets_setdefault (au X.prog X.w) a (fQ ry) hd fv)
  ⟨vs,dd,by rw[<-rel.length];exact zl,λv' hv'=>?_,λhn h' dd' hs=>?_⟩
 ·have r:=rel.val k;rw[hv']at r
  cases l:aV kvs k with
  | none=>rw[l]at r;exact r.elim
  | some v=>rw[l]at r;exact⟨v,H3,I3.tok _,r,q3 v l⟩
 have r:=rel.val k;rw[hn]at r
 cases l:aV kvs k with
 | some v=>rw[l]at r;exact r.elim
 | none =>
 obtain⟨zl',q5⟩:=q4 l;have he:∃q,h'.get? a=some q:=let ⟨q,_,_,hq,_⟩:=dd';⟨q,hq⟩
 have hl:(bq kvs k z).length<=sizeLine:=by
  rw[dY z l,Qi];exact zl'
 exact⟨z,_,fU I3 (by rw[ea];exact True.intro) hs he (oF hl hd (rel.put k rz) dd'),rz,q5⟩
end
end L2
namespace Bf
section
variable {κ:Type} [DecidableEq κ]
def aZ (w:List κ):List κ->List κ
 | []=>w
 | k::ks=>aZ (if k∈w then w else w++[k]) ks
def bfs (nx:κ->List κ) (s:κ):Nat->List κ
 | 0=>[s]
 | n+1=>match (bfs nx s n)[n]? with
  | some h=>aZ (bfs nx s n) (nx h)
  | none=>bfs nx s n
inductive Reach (nx:κ->List κ) (s:κ):κ->Prop
 | start:Reach nx s s
 | step {a b:κ}:Reach nx s a->b∈nx a->Reach nx s b
theorem cJ:∀(ks w:List κ),w <+: aZ w ks
 | [],w=>List.prefix_refl w
 | k::ks,w=>by
  unfold aZ;refine List.IsPrefix.trans ?_ (cJ ks _)
  split
  ·exact List.prefix_refl w
  exact List.prefix_append w [k]
theorem dN:∀(ks w:List κ) (x:κ),x∈aZ w ks↔x∈w\/x∈ks
 | [],w,x=>by simp[aZ]
 | k::ks,w,x=>by
  unfold aZ;rw[dN ks]
  split
  ·rename_i h
   constructor
   ·rintro(q|q)
    ·exact .inl q
    exact .inr (Qp _ q)
   rintro(q|q)
   ·exact .inl q
   rcases Qj.mp q with e|q
   ·subst e;exact .inl h
   exact .inr q
  rw[Qz,Qv,Qj,or_assoc]
theorem dM:∀(ks w:List κ),w.Nodup->(aZ w ks).Nodup
 | [],w,h=>h
 | k::ks,w,h=>by
  unfold aZ;refine dM ks _ ?_
  split
  ·exact h
  rename_i hk
  rw[XC];refine⟨h,by simp,λa ha b hb=>?_⟩;rw[Qv]at hb;subst hb;intro e;subst e;exact hk ha
theorem ja (w ks ls:List κ):aZ w (ks++ls)=aZ (aZ w ks) ls:=by
 induction ks generalizing w with
 | nil=>rfl
 | cons k ks ih=>exact ih _
theorem oS {w:List κ} {k:κ} (h:k∈w):aZ w [k]=w:=by simp[aZ,h]
theorem oR {w:List κ} {k:κ} (h:k∉w):aZ w [k]=w++[k]:=by simp[aZ,h]
variable {nx:κ->List κ} {s:κ}
variable {n i:Nat}
theorem dC {h:κ} (e:(bfs nx s n)[n]?=some h):bfs nx s (n+1)=aZ (bfs nx s n) (nx h):=by
 show (match (bfs nx s n)[n]? with|some h=>aZ (bfs nx s n) (nx h)|none=>bfs nx s n)=_;rw[e]
theorem eC (e:(bfs nx s n)[n]?=none):bfs nx s (n+1)=bfs nx s n:=by
 show (match (bfs nx s n)[n]? with|some h=>aZ (bfs nx s n) (nx h)|none=>bfs nx s n)=_;rw[e]
theorem m5 (n:Nat):bfs nx s n <+: bfs nx s (n+1):=by
 cases e:(bfs nx s n)[n]? with
 | none=>rw[eC e];exact List.prefix_refl _
 | some h=>rw[dC e];exact cJ _ _
theorem gK (n:Nat):∀m,bfs nx s n <+: bfs nx s (n+m)
 | 0=>List.prefix_refl _
 | m+1=>(gK n m).trans (m5 (n+m))
theorem gF {xs ys:List κ} (h:xs <+: ys) {x:κ} (e:xs[i]?=some x):ys[i]?=some x:=by
 obtain⟨t,rfl⟩:=h;rw[QG (Qc.mp e).1];exact e
theorem hX {xs ys:List κ} (h:xs <+: ys) {x:κ} (hi:i<xs.length) (e:ys[i]?=some x):xs[i]?=some x:=by
 obtain⟨t,rfl⟩:=h;rw[QG hi]at e;exact e
theorem cW:∀n,(bfs nx s n).Nodup
 | 0=>by simp[bfs]
 | n+1=>by
  cases e:(bfs nx s n)[n]? with
  | none=>rw[eC e];exact cW n
  | some h=>rw[dC e];exact dM _ _ (cW n)
theorem cV:∀n x,x∈bfs nx s n->Reach nx s x
 | 0,x,h=>by
  have:x=s:=by simpa[bfs] using h
  subst this;exact .start
 | n+1,x,hx=>by
  cases e:(bfs nx s n)[n]? with
  | none=>rw[eC e]at hx;exact cV n x hx
  | some h =>
  rw[dC e]at hx;rcases(dN _ _ _).mp hx with q|q
  ·exact cV n x q
  exact .step (cV n h (Qh e)) q
theorem mZ (n:Nat):(bfs nx s n)[0]?=some s:=gF (by have:=gK (nx:=nx) (s:=s) 0 n;rwa [Nat.zero_add]at this) rfl
theorem rK (n:Nat):s∈bfs nx s n:=Qh (mZ n)
theorem oN {i:Nat} {h:κ} (hi:i<n) (e:(bfs nx s n)[i]?=some h):∀k∈nx h,k∈bfs nx s n:=by
 have h1:bfs nx s i <+: bfs nx s n:=by
  have:=gK (nx:=nx) (s:=s) i (n-i);rwa [Nat.add_sub_cancel' (XT hi)]at this
 have h2:bfs nx s (i+1) <+: bfs nx s n:=by
  have:=gK (nx:=nx) (s:=s) (i+1) (n-(i+1));rwa [Nat.add_sub_cancel' hi]at this
 intro k hk
 cases q:(bfs nx s i)[i]? with
 | some h' =>
  have:some h'=some h:=(gF h1 q).symm.trans e;cases this;refine h2.subset ?_;rw[dC q];exact(dN _ _ _).mpr (.inr hk)
 | none =>
 -- then nothing is added any more
 exfalso
 have stay:∀m,bfs nx s (i+m)=bfs nx s i:=by
  intro m
  induction m with
  | zero=>rfl
  | succ m ih =>
  have:(bfs nx s (i+m))[i+m]?=none:=by
   rw[ih];exact QU (QQ (Xd.mp q) (QM i m))
  exact(eC this).trans ih
 have:=stay (n-i);rw[Nat.add_sub_cancel' (XT hi)]at this;rw[this,q]at e;cases e
theorem wr (hn:(bfs nx s n).length<=n) (x:κ):x∈bfs nx s n↔Reach nx s x:=by
 refine⟨cV n x,λr=>?_⟩
 induction r with
 | start=>exact rK n
 | step r hb ih =>
 obtain⟨i,hi,e⟩:=List.mem_iff_getElem.mp ih;exact oN (i:=i) (by omega) (by rw[Qb hi,e]) _ hb
theorem fB:∀(ks w:List κ) (j:Nat) (x:κ),w.length<=j->(aZ w ks)[j]?=some x->x∈ks
 | [],w,j,x,hj,e=>by
  have:w[j]?=some x:=e;rw[QU hj]at this;cases this
 | k::ks,w,j,x,hj,e=>by
  unfold aZ at e
  split at e
  ·exact Qp _ (fB ks w j x hj e)
  by_cases c:j=w.length
  ·subst c;have:=hX (cJ ks (w++[k])) (i:=w.length) (by simp) e;rw[QJ (Qg _)]at this;simp at this;exact this▸Xp
  exact Qp _ (fB ks (w++[k]) j x (by simp;omega) e)
theorem iR:∀(n j:Nat) (x:κ),0<j->(bfs nx s n)[j]?=some x->∃i h,i<j/\i<n/\(bfs nx s n)[i]?=some h/\x∈nx h
 | 0,j,x,hj,e=>by
  have:([s]:List κ)[j]?=some x:=e;rw[QU (by simp;omega)]at this;cases this
 | n+1,j,x,hj,e=>by
  cases q:(bfs nx s n)[n]? with
  | none =>
   rw[eC q]at e ⊢;obtain⟨i,h,h1,h2,h3,h4⟩:=iR n j x hj e;exact⟨i,h,h1,by omega,h3,h4⟩
  | some h =>
  rw[dC q]at e ⊢;by_cases c:j<(bfs nx s n).length
  ·have e':=hX (cJ (nx h) (bfs nx s n)) c e;obtain⟨i,h',h1,h2,h3,h4⟩:=iR n j x hj e';exact⟨i,h',h1,by omega,gF (cJ _ _) h3,h4⟩
  have hn:n<(bfs nx s n).length:=(Qc.mp q).1;exact⟨n,h,by omega,by omega,gF (cJ _ _) q,fB _ _ j x (by omega) e⟩
theorem pigeon:∀(xs ys:List κ),xs.Nodup->(∀x∈xs,x∈ys)->xs.length<=ys.length
 | [],_,_,_=>QT _
 | x::xs,ys,nd,h=>by
  rw[QS]at nd;have hx:x∈ys:=h x Xp;have:=pigeon xs (ys.erase x) nd.2 λy hy=>(List.mem_erase_of_ne (λz:y=x=>nd.1 (by rw[<-z];exact hy))).mpr (h y (Qp _ hy));rw[List.length_erase_of_mem hx]at this;have:0<ys.length:=List.length_pos_of_mem hx;simp only[Xm];omega
end
end Bf
namespace L2
open PySem PySem.Spec PyProof.Rows
section
variable {X:Cx}
def xF:V->List V->Hp->VK->Prop:=λx vs H Q=>∃(l:Addr) (xs:List Str) (y:Str) (j:Nat),x=.ref l/\vs=[.str y]/\H l=some (.lst (xs.map V.str))/\xs[j]?=some y/\(∀m,m<j->xs[m]?≠some y)/\xs.length<=100000/\Q (.int j) H
theorem iu:MtR X "list.index" xF:=by
 intro pins s σ H x vs v us Q I rx rv h;obtain⟨l,xs,y,j,rfl,rfl,hH,hj,hno,hz,q⟩:=h;cases rx;obtain⟨u,rfl,t,rfl⟩:=dh rv;obtain⟨z,its,n,r,hl,e⟩:=I.lstM hH;have sa:=fb r;have hlen:its.length=xs.length:=by rw[<-hl,Qd]
 have hjl:j<xs.length:=(Qc.mp hj).1
 have at':∀m (hm:m<its.toArray.size),isStrOf y its.toArray[m]=(xs[m]'(by rw[Qk]at hm;exact tL hlen hm)==y):=λm hm=>by
  rw[Qk]at hm;obtain⟨u,hu,ru⟩:=r.get (i:=m) (show (xs.map V.str)[m]?=some (.str (xs[m]'(by exact tL hlen hm))) from by rw[Qq,Qb (by exact tL hlen hm)];rfl);obtain⟨tu,eu⟩:=ru;subst eu
  have e2:its.toArray[m]=.str (xs[m]'(by exact tL hlen hm)) tu:=by
   have:=(Qc.mp hu).2;simpa using this
  rw[e2];rfl
 refine call_meets F.slot_list_index ⟨_,e,rfl⟩ F.entry_list_index (F.args_list_index_2 _ _) (MeetsSeq.list_index l its.toArray n (.str y t) (isStrOf y) (λv hv=>eq_isStrOf y t sa v (by simpa using hv)) j (by rw[Qk];exact tM hlen hjl) (by omega) ?_ (λm hm hmj=>?_)) ⟨e,?_⟩
 ·rw[at' j (by rw[Qk];exact tM hlen hjl)];have:=(Qc.mp hj).2;rw[this];simp
 ·rw[at' m hm];rw[Qk]at hm;have h1:=hno m hmj;rw[Qb (by exact tL hlen hm)]at h1;simpa using h1
 exact⟨.int j,H,I.tok _,⟨_,rfl⟩,q⟩
end
section
variable {X:Cx}
end
section
variable {X:Cx}
def pF (T:Addr):R2:=λx y H Q=>x=.ref T/\((y=.str "0" /\ Q (.str "1") H)\/(y=.str "1" /\ Q (.str "0") H))
theorem vW {T:Addr} (hT:jg X.K T [("0", .flat (.str "1")),("1", .flat (.str "0"))]):IxR X (pF T):=by
 intro value slice pins s σ H x y v u Q I rx ry h hs;obtain⟨e1,h⟩:=h;subst e1;cases rx;have here:KTD.Here X.base s.heap T [("0", .flat (.str "1")),("1", .flat (.str "0"))]:=⟨KTD.text_of_look (get:=λa=>X.K.lookup a) (λa o e=>I.mod.kin a o e) hT,I.bk⟩;rcases h with⟨e,q⟩|⟨e,q⟩
 ·subst e;obtain⟨t,e⟩:=ry;subst e;refine KTD.item_textA here (by rfl) (by decide +kernel) ?_ hs;have e:decide (("0" : Str) = "0")=true:=by decide +kernel
  simp only[KTD.EachL,e,if_true];exact λt=>⟨.str "1", H,I.tok _,⟨_,rfl⟩,q⟩
 subst e;obtain⟨t,e⟩:=ry;subst e;refine KTD.item_textA here (by rfl) (by decide +kernel) ?_ hs;have e:decide (("1" : Str) = "0")=false:=by decide +kernel
 simp only[KTD.EachL,e,QH,XA];exact λ_ t=>⟨.str "0", H,I.tok _,⟨_,rfl⟩,q⟩
end
end L2
set_option maxHeartbeats 1000000
namespace Ks
open PySem PyProof.Rows PySem.W
def ev {α:Type} (c:Nat->Nat->Bool):KasT α->α
 | .ret a=>a
 | .ask i j k=>ev c (k (c i j))
theorem eM {α β:Type} (c:Nat->Nat->Bool) (f:α->KasT β):∀t:KasT α,ev c (t.bind f)=ev c (f (ev c t))
 | .ret _=>rfl
 | .ask i j k=>eM c f (k (c i j))
def Low {α:Type} (N:Nat):KasT α->Prop
 | .ret _=>True
 | .ask i j k=>i<N/\j<N/\∀b,Low N (k b)
theorem wp_of {α:Type} {N:Nat} {c:Nat->Nat->Bool} {cmp:Nat->Nat->(Bool->Shared->Prop)->Shared->Prop} {G:α->Shared->Prop} {s:Shared} (hc:∀i j,i<N->j<N->∀C:Bool->Shared->Prop,C (c i j) s->cmp i j C s) :
  ∀t:KasT α,Low N t->G (ev c t) s->t.kasWp cmp G s
 | .ret _,_,g=>g
 | .ask i j k,l,g=>hc i j l.1 l.2.1 _ (wp_of hc (k (c i j)) (l.2.2 _) g)
variable {N:Nat}
theorem Low.bind {α β:Type} {f:α->KasT β}:∀{t:KasT α},Low N t->(∀a,Low N (f a))->Low N (t.bind f)
 | .ret a,_,h=>h a
 | .ask i j k,l,h=>⟨l.1,l.2.1,λb=>Low.bind (l.2.2 b) h⟩
def Out {α:Type} (P:α->Prop):KasT α->Prop
 | .ret a=>P a
 | .ask _ _ k=>∀b,Out P (k b)
theorem Low.bindO {α β:Type} {P:α->Prop} {f:α->KasT β}:∀{t:KasT α},Low N t->Out P t->(∀a,P a->Low N (f a))->Low N (t.bind f)
 | .ret a,_,o,h=>h a o
 | .ask i j k,l,o,h=>⟨l.1,l.2.1,λb=>Low.bindO (l.2.2 b) (o b) h⟩
def Lt (N:Nat) (p:Array Nat):Prop:=∀x∈p.toList,x<N
theorem Lt.get {p:Array Nat} (h:Lt N p) (h0:0<N) (i:Nat):p.getD i 0<N:=by
 by_cases c:i<p.size
 ·have e:p.getD i 0=p[i]:=by simp[Array.getD,c]
  rw[e];exact h _ (Array.getElem_mem_toList c)
 have e:p.getD i 0=0:=by simp[Array.getD,c]
 rw[e];exact h0
theorem Lt.perm {p q:Array Nat} (h:Lt N p) (e:q.Perm p):Lt N q:=λx hx=>h x ((Array.perm_iff_toList_perm.mp e).mem_iff.mp hx)
section
variable {N:Nat} (h0:0<N)
include h0
theorem kI {p:Array Nat} (h:Lt N p):∀f n,Low N (kas_asc p f n)
 | 0,_=>trivial
 | f+1,n=>⟨h.get h0 _,h.get h0 _,λb=>by
   cases b with
   | true=>exact trivial
   | false=>exact kI h f (n+1)⟩
theorem fM:∀f (p:Array Nat) n q,Lt N p->Low N (kas_desc f p n q)/\Out (λr=>Lt N r.1) (kas_desc f p n q)
 | 0,p,n,q,h=>⟨trivial,h⟩
 | f+1,p,n,q,h=>by
  have a1:=fM f p (n+1) 0 h;have a2:=fM f _ (n+1) 0 (h.perm (mirror_perm p (n-(q+1)) n ((n-(n-(q+1))) / 2)));have a3:=fM f p (n+1) (q+1) h
  have hz:∀b,Low N (if b=true then (if q>0 then kas_desc f (kas_rev p (n-(q+1)) n) (n+1) 0 else kas_desc f p (n+1) 0) else KasT.ask (p.getD (n-1) 0) (p.getD n 0) λd=>if d=true then .ret (p,n,q) else kas_desc f p (n+1) (q+1)) /\
    Out (λr=>Lt N r.1) (if b=true then (if q>0 then kas_desc f (kas_rev p (n-(q+1)) n) (n+1) 0 else kas_desc f p (n+1) 0) else KasT.ask (p.getD (n-1) 0) (p.getD n 0) λd=>if d=true then .ret (p,n,q) else kas_desc f p (n+1) (q+1)):=λb=>by
   cases b with
   | true =>
    rw[Qs rfl];by_cases c:q>0
    ·rw[Qs c];exact a2
    rw[Qn c];exact a1
   | false =>
   rw[Qn Qr];refine⟨⟨h.get h0 _,h.get h0 _,λd=>?_⟩,λd=>?_⟩
   ·cases d with
    | true=>exact trivial
    | false=>exact a3.1
   cases d with
   | true=>exact h
   | false=>exact a3.2
  exact⟨⟨h.get h0 _,h.get h0 _,λb=>(hz b).1⟩,λb=>(hz b).2⟩
theorem jD {p:Array Nat} (h:Lt N p) (n nrem:Nat):Low N (kas_tail3 n nrem p)/\Out (λr=>Lt N r.2) (kas_tail3 n nrem p):=by
 have h':Lt N (kas_rev p 0 n):=h.perm (mirror_perm ..)
 have out:∀{t:KasT Nat},Out (λr:Nat × Array Nat=>Lt N r.2) (t.bind λm=>.ret (m,kas_rev p 0 n)):=by
  intro t
  induction t with
  | ret a=>exact h'
  | ask i j k ih=>exact λb=>ih b
 exact⟨(kI h0 h' _ _).bind λ_=>trivial,out⟩
theorem Out.bind {α β:Type} {P:α->Prop} {P':β->Prop} {f:α->KasT β}:∀{t:KasT α},Out P t->(∀a,P a->Out P' (f a))->Out P' (t.bind f)
 | .ret a,o,h=>h a o
 | .ask i j k,o,h=>λb=>Out.bind (o b) h
theorem mC {p:Array Nat} (h:Lt N p) (n nrem:Nat):Low N (kas_descPart n nrem p)/\Out (λr=>Lt N r.2) (kas_descPart n nrem p):=by
 have d:=fM h0 (nrem-(n+1)) p (n+1) 0 h
 have z:∀r:Array Nat × Nat × Nat,Lt N r.1->Low N (if r.2.2>0 then kas_tail3 r.2.1 nrem (kas_rev r.1 (r.2.1-(r.2.2+1)) r.2.1) else kas_tail3 r.2.1 nrem r.1)/\Out (λr=>Lt N r.2) (if r.2.2>0 then kas_tail3 r.2.1 nrem (kas_rev r.1 (r.2.1-(r.2.2+1)) r.2.1) else kas_tail3 r.2.1 nrem r.1):=λr hr=>by
  split
  ·exact jD h0 (hr.perm (mirror_perm ..)) _ _
  exact jD h0 hr _ _
 exact⟨d.1.bindO d.2 λr hr=>(z r hr).1,Out.bind h0 d.2 λr hr=>(z r hr).2⟩
theorem qZ {p:Array Nat} (h:Lt N p) (nrem:Nat):Low N (kas_count nrem p)/\Out (λr=>Lt N r.2) (kas_count nrem p):=by
 have z:∀n:Nat,Low N (if (n==nrem)=true then KasT.ret (n,p) else if n>1 then .ask (p.getD 0 0) (p.getD (n-1) 0) λc=>if c=true then .ret (n,p) else kas_descPart n nrem (kas_rev p 0 n) else kas_descPart n nrem p) /\
   Out (λr=>Lt N r.2) (if (n==nrem)=true then KasT.ret (n,p) else if n>1 then .ask (p.getD 0 0) (p.getD (n-1) 0) λc=>if c=true then .ret (n,p) else kas_descPart n nrem (kas_rev p 0 n) else kas_descPart n nrem p):=λn=>by
  split
  ·exact⟨trivial,h⟩
  split
  ·have q:=mC h0 (h.perm (mirror_perm p 0 n ((n-0) / 2))) n nrem;refine⟨⟨h.get h0 _,h.get h0 _,λb=>?_⟩,λb=>?_⟩
   ·cases b with
    | true=>exact trivial
    | false=>exact q.1
   cases b with
   | true=>exact h
   | false=>exact q.2
  exact mC h0 h n nrem
 have all:∀{t:KasT Nat},Out (λ_=>True) t:=by
  intro t
  induction t with
  | ret a=>exact trivial
  | ask i j k ih=>exact λb=>ih b
 exact⟨(kI h0 h _ _).bind λn=>(z n).1,Out.bind h0 all λn _=>(z n).2⟩
theorem gc {p:Array Nat} (h:Lt N p) (k:Nat):∀f l r,Low N (kas_place p k f l r)
 | 0,_,_=>trivial
 | f+1,l,r=>by
  unfold kas_place
  split
  ·exact trivial
  refine⟨h.get h0 _,h.get h0 _,λb=>?_⟩
  cases b with
  | true=>exact gc h k f _ _
  | false=>exact gc h k f _ _
theorem pW:∀f (p:Array Nat) k,Lt N p->Low N (kas_bin f p k)
 | 0,_,_,_=>trivial
 | f+1,p,k,h=>(gc h0 h k k 0 k).bind λl=>pW f _ _ (h.perm (bubble_perm ..))
theorem low_sort:Low N (kas_sort N):=by
 have h:Lt N (List.range N).toArray:=λx hx=>by simpa using hx
 have q:=qZ h0 h N;refine q.1.bindO q.2 λr hr=>?_
 split
 ·exact pW h0 _ _ _ hr
 exact trivial
end
section
variable {O:KeyOrd} {K:Nat->O.α}
def at_ (K:Nat->O.α) (p:Array Nat) (i:Nat):O.α:=K (p.getD i 0)
def Up (K:Nat->O.α) (p:Array Nat) (m:Nat):Prop:=∀i j,i<=j->j<m->O.kle (at_ K p i) (at_ K p j)
def Dn (K:Nat->O.α) (p:Array Nat) (m:Nat):Prop:=∀i j,i<=j->j<m->O.kle (at_ K p j) (at_ K p i)
abbrev cb (K:Nat->O.α) (i j:Nat):Bool:=O.blt (K i) (K j)
theorem Up.one (p:Array Nat):Up K p 1:=λi j h1 h2=>by
 obtain rfl:j=0:=by omega
 obtain rfl:i=0:=by omega
 exact O.irrefl _
variable {n i j N:Nat}
theorem Up.more {p:Array Nat} (u:Up K p n) (h1:1<=n) (h:O.kle (at_ K p (n-1)) (at_ K p n)):Up K p (n+1):=λi j h2 h3=>by
 by_cases e:j=n
 ·subst e;by_cases e2:i=j
  ·subst e2;exact O.irrefl _
  exact KeyOrd.kle_trans (u i (j-1) (by omega) (by omega)) h
 exact u i j h2 (by omega)
theorem Dn.more {p:Array Nat} (u:Dn K p n) (h1:1<=n) (h:O.kle (at_ K p n) (at_ K p (n-1))):Dn K p (n+1):=λi j h2 h3=>by
 by_cases e:j=n
 ·subst e;by_cases e2:i=j
  ·subst e2;exact O.irrefl _
  exact KeyOrd.kle_trans h (u i (j-1) (by omega) (by omega))
 exact u i j h2 (by omega)
theorem yw {p:Array Nat}:∀f n,1<=n->Up K p n->Up K p (ev (cb K) (kas_asc p f n))/\n<=ev (cb K) (kas_asc p f n)/\ev (cb K) (kas_asc p f n)<=n+f /\
  (ev (cb K) (kas_asc p f n)<n+f->O.klt (at_ K p (ev (cb K) (kas_asc p f n))) (at_ K p (ev (cb K) (kas_asc p f n)-1)))
 | 0,n,_,u=>⟨u,Qg _,Qg _,λh=>absurd h (X7 _)⟩
 | f+1,n,h1,u=>by
  have st:ev (cb K) (kas_asc p (f+1) n)=ev (cb K) (if cb K (p.getD n 0) (p.getD (n-1) 0)=true then KasT.ret n else kas_asc p f (n+1)):=rfl;rw[st];clear st
  cases c:cb K (p.getD n 0) (p.getD (n-1) 0) with
  | true=>exact⟨u,Qg _,by show n<=n+(f+1);omega,λ_=>c⟩
  | false =>
  rw[Qn Qr];obtain⟨a1,a2,a3,a4⟩:=yw f (n+1) (by omega) (u.more h1 c);exact⟨a1,by omega,by omega,λh=>a4 (by omega)⟩
theorem p_ (p:Array Nat) (hj:j<=p.size) (k:Nat):(kas_rev p i j).getD k 0=if (i<=k/\k<i+(j-i) / 2)\/(j-(j-i) / 2<=k/\k<j) then p.getD (i+j-1-k) 0 else p.getD k 0:=by
 have q:=getElem?_mirror (xs:=p) (i:=i) (j:=j) hj ((j-i) / 2) (by omega) k;unfold kas_rev;rw[QY,q]
 split
 ·rw[QY]
 rw[QY]
theorem pD {p:Array Nat} (hj:n<=p.size) {k:Nat} (hk:k<n):at_ K (kas_rev p 0 n) k=at_ K p (n-1-k):=by
 unfold at_;rw[p_ p hj]
 split
 ·rw[Nat.zero_add]
 rename_i h
 have:n-1-k=k:=by omega
 rw[this]
theorem gZ {p:Array Nat} {a n:Nat} (hj:n<=p.size) (h:∀i,a<=i->i<n->at_ K p i=at_ K p (n-1)) (k:Nat):at_ K (kas_rev p a n) k=at_ K p k:=by
 unfold at_;rw[p_ p hj]
 split
 ·rename_i c
  show at_ K p _=at_ K p _;rw[h (a+n-1-k) (by omega) (by omega),h k (by omega) (by omega)]
 rfl
theorem Dn.up {p:Array Nat} (hj:n<=p.size) (d:Dn K p n):Up K (kas_rev p 0 n) n:=λi j h1 h2=>by
 rw[pD hj (by omega),pD hj h2];exact d _ _ (by omega) (by omega)
theorem Dn.congr {p q:Array Nat} (d:Dn K p n) (h:∀k,at_ K q k=at_ K p k):Dn K q n:=λi j h1 h2=>by rw[h,h];exact d i j h1 h2
def Seg (K:Nat->O.α) (p:Array Nat) (n q:Nat):Prop:=∀i,n-(q+1)<=i->i<n->at_ K p i=at_ K p (n-1)
theorem Seg.zero (p:Array Nat) (n:Nat):Seg K p n 0:=λi h1 h2=>by rw[show i=n-1 by omega]
theorem qk:∀f (p:Array Nat) n q,1<=n->Dn K p n->q+1<=n->Seg K p n q->n+f<=p.size ->
  (ev (cb K) (kas_desc f p n q)).1.Perm p/\Dn K (ev (cb K) (kas_desc f p n q)).1 (ev (cb K) (kas_desc f p n q)).2.1/\n<=(ev (cb K) (kas_desc f p n q)).2.1/\(ev (cb K) (kas_desc f p n q)).2.1<=n+f/\(ev (cb K) (kas_desc f p n q)).2.2+1<=(ev (cb K) (kas_desc f p n q)).2.1/\Seg K (ev (cb K) (kas_desc f p n q)).1 (ev (cb K) (kas_desc f p n q)).2.1 (ev (cb K) (kas_desc f p n q)).2.2
 | 0,p,n,q,h1,d,hq,sg,hz=>⟨.refl _,d,Qg _,Qg _,hq,sg⟩
 | f+1,p,n,q,h1,d,hq,sg,hz=>by
  have st:ev (cb K) (kas_desc (f+1) p n q)=ev (cb K) (if cb K (p.getD n 0) (p.getD (n-1) 0)=true then (if q>0 then kas_desc f (kas_rev p (n-(q+1)) n) (n+1) 0 else kas_desc f p (n+1) 0) else .ask (p.getD (n-1) 0) (p.getD n 0) λd=>if d=true then .ret (p,n,q) else kas_desc f p (n+1) (q+1)):=by
   conv=>lhs;unfold kas_desc
   rfl
  rw[st];clear st
  cases c:cb K (p.getD n 0) (p.getD (n-1) 0) with
  | true =>
   rw[Qs rfl];have k1:O.kle (at_ K p n) (at_ K p (n-1)):=KeyOrd.klt_asymm c;by_cases q0:q>0
   ·rw[Qs q0];have e:=gZ (K:=K) (p:=p) (a:=n-(q+1)) (n:=n) (by omega) sg;obtain⟨a1,a2,a3,a4,a5,a6⟩:=qk f (kas_rev p (n-(q+1)) n) (n+1) 0 (by omega) ((d.more h1 k1).congr e) (by omega) (.zero _ _) (by rw[kas_rev,mirror_size];omega);exact⟨a1.trans (mirror_perm ..),a2,by omega,by omega,a5,a6⟩
   rw[Qn q0];obtain⟨a1,a2,a3,a4,a5,a6⟩:=qk f p (n+1) 0 (by omega) (d.more h1 k1) (by omega) (.zero _ _) (by omega);exact⟨a1,a2,by omega,by omega,a5,a6⟩
  | false =>
  rw[Qn Qr];have st:ev (cb K) (KasT.ask (p.getD (n-1) 0) (p.getD n 0) λd=>if d=true then .ret (p,n,q) else kas_desc f p (n+1) (q+1))=ev (cb K) (if cb K (p.getD (n-1) 0) (p.getD n 0)=true then .ret (p,n,q) else kas_desc f p (n+1) (q+1)):=rfl;rw[st];clear st
  cases c2:cb K (p.getD (n-1) 0) (p.getD n 0) with
  | true =>
   rw[Qs rfl];exact⟨.refl _,d,Qg _,QM _ _,hq,sg⟩
  | false =>
  rw[Qn Qr];have e:at_ K p n=at_ K p (n-1):=O.total _ _ c c2
  obtain⟨a1,a2,a3,a4,a5,a6⟩:=qk f p (n+1) (q+1) (by omega) (d.more h1 (by rw[e];exact O.irrefl _)) (by omega) (λi g1 g2=>by
   rw[Nat.add_sub_cancel];by_cases z:i=n
   ·rw[z]
   rw[e];exact sg i (by omega) (by omega)) (by omega)
  exact⟨a1,a2,by omega,by omega,a5,a6⟩
theorem rW {p:Array Nat} {n nrem:Nat} (h1:1<=n) (hn:n<=nrem) (hz:nrem<=p.size) (d:Dn K p n) :
  (ev (cb K) (kas_tail3 n nrem p)).2.Perm p/\Up K (ev (cb K) (kas_tail3 n nrem p)).2 (ev (cb K) (kas_tail3 n nrem p)).1/\1<=(ev (cb K) (kas_tail3 n nrem p)).1/\(ev (cb K) (kas_tail3 n nrem p)).1<=nrem:=by
 unfold kas_tail3;rw[eM];obtain⟨a1,a2,a3,_⟩:=yw (K:=K) (nrem-n) n h1 (d.up (by omega));exact⟨mirror_perm ..,a1,by show 1<=ev _ _;omega,by show ev _ _<=nrem;omega⟩
theorem wW {p:Array Nat} {n nrem:Nat} (h1:1<=n) (hn:n+1<=nrem) (hz:nrem<=p.size) (d:Dn K p (n+1)) :
  (ev (cb K) (kas_descPart n nrem p)).2.Perm p/\Up K (ev (cb K) (kas_descPart n nrem p)).2 (ev (cb K) (kas_descPart n nrem p)).1/\1<=(ev (cb K) (kas_descPart n nrem p)).1/\(ev (cb K) (kas_descPart n nrem p)).1<=nrem:=by
 unfold kas_descPart;rw[eM];obtain⟨a1,a2,a3,a4,a5,a6⟩:=qk (K:=K) (nrem-(n+1)) p (n+1) 0 (by omega) d (by omega) (.zero _ _) (by omega);have sz:=a1.size_eq;generalize ev (cb K) (kas_desc (nrem-(n+1)) p (n+1) 0)=r at *;obtain⟨p',m,q⟩:=r;dsimp only at *
 split
 ·have e:=gZ (K:=K) (p:=p') (a:=m-(q+1)) (n:=m) (by omega) a6;obtain⟨b1,b2,b3,b4⟩:=rW (K:=K) (p:=kas_rev p' (m-(q+1)) m) (n:=m) (nrem:=nrem) (by omega) (by omega) (by rw[kas_rev,mirror_size];omega) (a2.congr e);exact⟨b1.trans ((mirror_perm ..).trans a1),b2,b3,b4⟩
 obtain⟨b1,b2,b3,b4⟩:=rW (K:=K) (p:=p') (n:=m) (nrem:=nrem) (by omega) (by omega) (by omega) a2;exact⟨b1.trans a1,b2,b3,b4⟩
theorem yq {p:Array Nat} {nrem:Nat} (h1:1<=nrem) (hz:nrem<=p.size) :
  (ev (cb K) (kas_count nrem p)).2.Perm p/\Up K (ev (cb K) (kas_count nrem p)).2 (ev (cb K) (kas_count nrem p)).1/\1<=(ev (cb K) (kas_count nrem p)).1/\(ev (cb K) (kas_count nrem p)).1<=nrem:=by
 unfold kas_count;rw[eM];obtain⟨a1,a2,a3,a4⟩:=yw (K:=K) (p:=p) (nrem-1) 1 (Qg _) (.one p);generalize ev (cb K) (kas_asc p (nrem-1) 1)=n at *
 split
 ·exact⟨.refl _,a1,a2,by show n<=nrem;omega⟩
 rename_i c
 have c:n≠nrem:=by simpa using c
 have lt:=a4 (by omega)
 split
 ·have st:ev (cb K) (KasT.ask (p.getD 0 0) (p.getD (n-1) 0) λc=>if c=true then .ret (n,p) else kas_descPart n nrem (kas_rev p 0 n))=ev (cb K) (if cb K (p.getD 0 0) (p.getD (n-1) 0)=true then .ret (n,p) else kas_descPart n nrem (kas_rev p 0 n)):=rfl;rw[st];clear st
  cases c2:cb K (p.getD 0 0) (p.getD (n-1) 0) with
  | true=>rw[Qs rfl];exact⟨.refl _,a1,a2,by show n<=nrem;omega⟩
  | false =>
  rw[Qn Qr]
  have eq0:∀i,i<n->at_ K p i=at_ K p (n-1):=λi hi=>by
   have k1:O.kle (at_ K p i) (at_ K p (n-1)):=a1 i (n-1) (by omega) (by omega);have k2:O.kle (at_ K p (n-1)) (at_ K p 0):=c2;exact KeyOrd.kle_antisymm k1 (KeyOrd.kle_trans k2 (a1 0 i (by omega) hi))
  have e:=gZ (K:=K) (p:=p) (a:=0) (n:=n) (by omega) (λi _ h=>eq0 i h);have d:Dn K (kas_rev p 0 n) (n+1):=Dn.congr (p:=p) (Dn.more (λi j g1 g2=>by rw[eq0 i (by omega),eq0 j g2];exact O.irrefl _) a2 (KeyOrd.klt_asymm lt)) e;obtain⟨b1,b2,b3,b4⟩:=wW (K:=K) (p:=kas_rev p 0 n) (n:=n) (nrem:=nrem) a2 (by omega) (by rw[kas_rev,mirror_size];omega) d;exact⟨b1.trans (mirror_perm ..),b2,b3,b4⟩
 obtain rfl:n=1:=by omega
 exact wW (K:=K) (Qg _) (by omega) hz (Dn.more (λi j g1 g2=>by rw[show i=j by omega];exact O.irrefl _) (Qg _) (KeyOrd.klt_asymm lt))
theorem nM {p:Array Nat} {k:Nat} (u:Up K p k):∀f l r,l<=r->r<=k->r-l<=f->(∀i,i<l->O.kle (at_ K p i) (at_ K p k))->(∀i,r<=i->i<k->O.klt (at_ K p k) (at_ K p i)) ->
  ev (cb K) (kas_place p k f l r)<=k/\(∀i,i<ev (cb K) (kas_place p k f l r)->O.kle (at_ K p i) (at_ K p k))/\∀i,ev (cb K) (kas_place p k f l r)<=i->i<k->O.klt (at_ K p k) (at_ K p i)
 | 0,l,r,h1,h2,h3,b1,b2=>by
  obtain rfl:l=r:=by omega
  exact⟨h2,b1,b2⟩
 | f+1,l,r,h1,h2,h3,b1,b2=>by
  unfold kas_place;by_cases c:l>=r
  ·rw[Qs c];obtain rfl:l=r:=by omega
   exact⟨h2,b1,b2⟩
  rw[Qn c];have st:ev (cb K) (KasT.ask (p.getD k 0) (p.getD ((l+r) / 2) 0) λc=>if c=true then kas_place p k f l ((l+r) / 2) else kas_place p k f ((l+r) / 2+1) r)=ev (cb K) (if cb K (p.getD k 0) (p.getD ((l+r) / 2) 0)=true then kas_place p k f l ((l+r) / 2) else kas_place p k f ((l+r) / 2+1) r):=rfl;rw[st];clear st
  cases c2:cb K (p.getD k 0) (p.getD ((l+r) / 2) 0) with
  | true =>
   rw[Qs rfl];exact nM u f l ((l+r) / 2) (by omega) (by omega) (by omega) b1 λi g1 g2=>KeyOrd.klt_of_klt_of_kle c2 (u _ _ g1 g2)
  | false =>
  rw[Qn Qr];exact nM u f ((l+r) / 2+1) r (by omega) (by omega) (by omega) (λi g=>KeyOrd.kle_trans (u i ((l+r) / 2) (by omega) (by omega)) c2) b2
theorem wc {p:Array Nat} {k d:Nat} (hk:k<p.size) (hd:d<=k) (i:Nat):at_ K (bubble p k d) i=if i=k-d then at_ K p k else if k-d<i/\i<=k then at_ K p (i-1) else at_ K p i:=by
 have q:=getElem?_bubble (xs:=p) hk d hd i;have e:∀j,at_ K p j=K (p[j]?.getD 0):=λj=>by rw[at_,QY]
 rw[e,e,e,at_,QY,q];by_cases c1:i=k-d
 ·rw[Qs c1,Qs c1]
 rw[Qn c1,Qn c1];by_cases c2:k-d<i/\i<=k
 ·rw[Qs c2,Qs c2]
 rw[Qn c2,Qn c2]
theorem zS:∀f (p:Array Nat) k,Up K p k->k+f<=p.size->(ev (cb K) (kas_bin f p k)).Perm p/\Up K (ev (cb K) (kas_bin f p k)) (k+f)
 | 0,p,k,u,_=>⟨.refl _,u⟩
 | f+1,p,k,u,hz=>by
  unfold kas_bin;rw[eM];obtain⟨a1,a2,a3⟩:=nM (K:=K) u k 0 k (QT _) (Qg _) (by omega) (λi h=>absurd h (X2 _)) (λi g1 g2=>absurd g2 (by omega));generalize ev (cb K) (kas_place p k k 0 k)=l at *;have gb:=wc (K:=K) (p:=p) (k:=k) (d:=k-l) (by omega) (by omega);have el:k-(k-l)=l:=by omega
  rw[el]at gb
  have u':Up K (bubble p k (k-l)) (k+1):=λi j g1 g2=>by
   rw[gb i,gb j];by_cases i1:i=l
   ·rw[Qs i1];by_cases j1:j=l
    ·rw[Qs j1];exact O.irrefl _
    rw[Qn j1,Qs ⟨by omega,by omega⟩];exact KeyOrd.klt_asymm (a3 _ (by omega) (by omega))
   rw[Qn i1];by_cases i2:l<i/\i<=k
   ·rw[Qs i2,Qn (by omega),Qs ⟨by omega,by omega⟩];exact u _ _ (by omega) (by omega)
   rw[Qn i2];by_cases j1:j=l
   ·rw[Qs j1];exact a2 i (by omega)
   rw[Qn j1];by_cases j2:l<j/\j<=k
   ·rw[Qs j2];exact u _ _ (by omega) (by omega)
   rw[Qn j2];exact u _ _ g1 (by omega)
  obtain⟨b1,b2⟩:=zS f (bubble p k (k-l)) (k+1) u' (by rw[bubble_size];omega);exact⟨b1.trans (bubble_perm ..),by rw[show k+(f+1)=k+1+f by omega];exact b2⟩
theorem sort_ (h0:0<N):(ev (cb K) (kas_sort N)).Perm (List.range N).toArray/\Up K (ev (cb K) (kas_sort N)) N:=by
 unfold kas_sort;rw[eM];obtain⟨a1,a2,a3,a4⟩:=yq (K:=K) (p:=(List.range N).toArray) (nrem:=N) h0 (by simp);have sz:(ev (cb K) (kas_count N (List.range N).toArray)).2.size=N:=by rw[a1.size_eq];simp
 generalize ev (cb K) (kas_count N (List.range N).toArray)=r at *
 split
 ·have e:max r.1 1=r.1:=Nat.max_eq_left a3;rw[e];obtain⟨b1,b2⟩:=zS (K:=K) (N-r.1) r.2 r.1 a2 (by omega);exact⟨b1.trans a1,by rw[show r.1+(N-r.1)=N by omega]at b2;exact b2⟩
 exact⟨a1,by rw[show N=r.1 by omega];exact a2⟩
end
end Ks
namespace Tm
open PySem PySem.Spec PyProof.Rows
def zY (κ:PyProof.Rows.KeyKind) (kd:SortKind) (prog:Program) (w:World) (A:Around) (s:Shared):Prop :=
 ∀(E:A0) (x y:Value) (a b:κ.α) (Q:Bool->Shared->Prop),κ.keyOf x=some a->κ.keyOf y=some b->Q (κ.blt a b) s->wpAny (model prog w) A (keyLt' kd x y) Q E s
def kv (κ:PyProof.Rows.KeyKind) (p:Keyed):κ.α:=(κ.keyOf p.1).getD κ.dflt
def le (κ:PyProof.Rows.KeyKind) (p q:Keyed):Prop:=κ.kle (kv κ p) (kv κ q)
def leV (κ:PyProof.Rows.KeyKind) (u v:Value):Prop:=le κ (u,u) (v,v)
section
variable {prog:Program} {w:World} {A:Around} {E:A0} {s:Shared}
structure Can (prog:Program) (w:World) (up:Around->Prop) (κ:PyProof.Rows.KeyKind) (kd:SortKind) (h:Heap) (a:Addr) (vs:List Value):Prop where
 key:∀v∈vs,∃x,κ.keyOf v=some x
 lt:∀(A:Around) (s:Shared),up A->(∀b o,b≠a->h.get? b=some o->s.heap.get? b=some o)->zY κ kd prog w A s
 kind:2<=vs.length->∀(A:Around) (E:A0) (s:Shared) (Q:SortKind->Shared->Prop),(∀b o,b≠a->h.get? b=some o->s.heap.get? b=some o)->Q kd s->wpAny (model prog w) A (keyKind' vs.toArray) Q E s
variable {vs:List Value} {κ:PyProof.Rows.KeyKind}
theorem tJ {p:Array Nat} (hp:p.Perm (List.range vs.length).toArray) (u:Ks.Up (O:=κ.toKeyOrd) (λi=>kv κ (vs.getD i Value.none,vs.getD i Value.none)) p vs.length) :
  (p.toList.map λi=>vs.getD i Value.none).Perm vs/\(p.toList.map λi=>vs.getD i Value.none).Pairwise (leV κ):=by
 have pl:p.toList.Perm (List.range vs.length):=by simpa using Array.perm_iff_toList_perm.mp hp
 have sz:p.size=vs.length:=by rw[hp.size_eq];simp
 refine⟨?_,?_⟩
 ·have e:vs=(List.range vs.length).map λi=>vs.getD i Value.none:=by
   refine List.ext_getElem (by simp) λi h1 h2=>?_;rw[List.getElem_map,List.getElem_range,Qo,Qb h1];rfl
  conv=>rhs;rw[e]
  exact pl.map _
 rw[Xo,List.pairwise_iff_getElem];intro i j hi hj hij;have:=u i j (by omega) (by rw[Qm]at hj;omega);unfold Ks.at_ at this;rw[Qm]at hi hj;have e1:p.getD i 0=p.toList[i]:=by simp[Array.getD,hi]
 have e2:p.getD j 0=p.toList[j]:=by simp[Array.getD,hj]
 rw[e1,e2]at this;exact this
theorem vV {kd:SortKind} {G:Array Nat->Shared->Prop} (hL:zY κ kd prog w A s) (hk:∀v∈vs,∃x,κ.keyOf v=some x) (h0:0<vs.length)
  (h:∀p:Array Nat,(p.toList.map λi=>vs.getD i Value.none).Perm vs->(p.toList.map λi=>vs.getD i Value.none).Pairwise (leV κ)->G p s):(PySem.W.kas_sort vs.length).kasWp (PySem.W.kas_ask prog w A kd vs) G s:=by
 refine Ks.wp_of (N:=vs.length) (c:=Ks.cb (O:=κ.toKeyOrd) λi=>kv κ (vs.getD i Value.none,vs.getD i Value.none)) (λi j hi hj C hC=>?_) _ (Ks.low_sort h0) ?_
 ·have mem:∀i,i<vs.length->∃x,κ.keyOf (vs.getD i Value.none)=some x:=λi hi=>hk _ (by rw[Qo,Qb hi];exact QW hi);obtain⟨a,ha⟩:=mem i hi;obtain⟨b,hb⟩:=mem j hj;refine hL _ _ _ a b _ ha hb ?_
  have e:Ks.cb (O:=κ.toKeyOrd) (λi=>kv κ (vs.getD i Value.none,vs.getD i Value.none)) i j=κ.blt a b:=by
   show κ.blt ((κ.keyOf (vs.getD i Value.none)).getD κ.dflt) ((κ.keyOf (vs.getD j Value.none)).getD κ.dflt)=_;rw[ha,hb];rfl
  rw[e]at hC;exact hC
 obtain⟨a1,a2⟩:=Ks.sort_ (O:=κ.toKeyOrd) (K:=λi=>kv κ (vs.getD i Value.none,vs.getD i Value.none)) h0;obtain⟨b1,b2⟩:=tJ a1 a2;exact h _ b1 b2
variable {a b d:Addr}
theorem iA {up:Around->Prop} {kd:SortKind} {n:Nat} {P:Fin->Shared->Prop} (ho:s.heap.get? a=some (seqObj "list" vs.toArray n)) (c:Can prog w up κ kd s.heap a vs) (hu:up A) (hn:vs.length<64)
  (h:∀out:Array Value,out.toList.Perm vs->out.toList.Pairwise (leV κ)->P (.done (.ret .none)) { s with heap:=sortedHeap s.heap a vs out }):wpAny (model prog w) A (Builtin.«list.sort» ⟨[.ref a],[]⟩) P E s:=by
 rw[list_sort_plain];have ha:a<s.heap.objs.size:=Qt ho;refine Qa (listItems_at ho rfl (Qa (listUpdate_at ho rfl ?_)));obtain⟨e1,ho1⟩:∃e1,(s.heap.update a (Obj.mapSeq λ_=>#[])).get? a=some (seqObj "list" #[] e1):=⟨_,get?_update_seq ho (λ_=>#[])⟩;refine Qa (seqEpoch_at ho1 rfl (Qa (wpAny_newTuple (Qa (wpAny_newList (Xf ?_))) (by rw[XQ];show vs.length<=_;omega))))
 have keep:∀b o,b≠a->s.heap.get? b=some o->(((s.heap.update a (Obj.mapSeq λ_=>#[])).push (seqObj "tuple" vs.toArray 0)).push (seqObj "list" #[] 0)).get? b=some o:=λb o hb e =>
  Qe _ (Qe _ ((Xj _ _ (Ne.symm hb)).trans e))
 have ho6:(((s.heap.update a (Obj.mapSeq λ_=>#[])).push (seqObj "tuple" vs.toArray 0)).push (seqObj "list" #[] 0)).get? a=some (seqObj "list" #[] e1):=Qe _ (Qe _ ho1);show wpAny (model prog w) A _ P E { s with heap:=((s.heap.update a (Obj.mapSeq λ_=>#[])).push (seqObj "tuple" vs.toArray 0)).push (seqObj "list" #[] 0) };dsimp only;have zs:vs.toArray.size=vs.length:=by simp
 by_cases c2:vs.toArray.size<2
 ·rw[Qs c2,Qs c2];refine Qa (Qf ?_);rw[StateT.run_pure];refine Qa (Qf (Qa (seqEpoch_at ho6 rfl (Qa (listUpdate_at ho6 rfl ?_ (hsz2:=by rw[Array.size_map];show (pairsOf vs).size<=_;rw[pairsOf_size,XQ];omega))))));simp only[bne_self_eq_false,QH,XA];have e:((vs.toArray.zip vs.toArray).map (·.2)).toList=vs:=by simp[List.map_snd_zip]
  have p1:(((vs.toArray.zip vs.toArray).map (·.2)).toList).Perm vs:=by rw[e]
  have p2:(((vs.toArray.zip vs.toArray).map (·.2)).toList).Pairwise (leV κ):=by
   rw[e]
   match vs,zs,c2 with
   | [],_,_=>exact List.Pairwise.nil
   | [v],_,_=>exact List.pairwise_singleton _ _
   | v::u::r,zs,c2=>exact absurd c2 (by simp)
  exact Qf (h _ p1 p2)
 rw[Qn c2,Qn c2];refine Qa (c.kind (by omega) _ _ _ _ keep ?_);have h2:2<=vs.length:=by omega
 refine Qa (XV (PySem.W.kat_run (κ:=kd) (ks:=vs) (vs:=vs) (G:=λp s'=>s'=_/\(p.toList.map λi=>vs.getD i Value.none).Perm vs/\(p.toList.map λi=>vs.getD i Value.none).Pairwise (leV κ))
  (Q:=λst' s'=>s'=_/\failedOf st'=none/\∃l:List Value,(arrOf st').map (·.2)=l.toArray/\l.Perm vs/\l.Pairwise (leV κ)) rfl h2 hn
  (λp st' s' a1 a2 a3 a4=>⟨a4.1,a3,_,PySem.W.kat_snds rfl a2,a4.2⟩) (vV (c.lt _ _ hu keep) c.key (by omega) λp q1 q2=>⟨rfl,q1,q2⟩)) ?_ λ_ _ e=>e)
 rintro⟨⟨⟩,st'⟩ s' ⟨rfl,hf,l,hl,q1,q2⟩;dsimp only;rw[hl];refine Qa (seqEpoch_at ho6 rfl (Qa (listUpdate_at ho6 rfl ?_ (hsz2:=by rw[Qk,q1.length_eq,XQ];omega))));rw[hf];simp only[bne_self_eq_false,QH,XA];exact Qf (h _ q1 q2)
theorem dW {h:Heap} {out:Array Value} {o:Obj} (hb:b≠a) (e:h.get? b=some o):(sortedHeap h a vs out).get? b=some o:=by
 unfold sortedHeap;exact(Xj _ _ (Ne.symm hb)).trans (Qe _ (Qe _ ((Xj _ _ (Ne.symm hb)).trans e)))
theorem eP {h:Heap} {vs:List Value} {out:Array Value} {n:Nat} (e:h.get? a=some (seqObj "list" vs.toArray n)):∃m,(sortedHeap h a vs out).get? a=some (seqObj "list" out m):=by
 unfold sortedHeap;exact⟨_,get?_update_seq (Qe _ (Qe _ (get?_update_seq e (λ_=>#[])))) (λ_=>out)⟩
theorem qK {up:Around->Prop} {κ:Heap->PyProof.Rows.KeyKind} {kd:SortKind} {r:Value} {Q:A0} {G:Heap->List Value->Prop}
  (col:∀(A:Around) (E:A0) (R:List Value->Shared->Prop),A.handled=none->(∀h' tk vs,(∀b o,s.heap.get? b=some o->h'.get? b=some o)->s.heap.objs.size<=h'.objs.size->G h' vs->R vs { s with heap:=h',toks:=tk })->wpAny (model prog w) A (collect r) R E s)
  (hh:A.handled=none) (hu:up A.in1.in1) (can:∀h' vs D,(∀b o,s.heap.get? b=some o->h'.get? b=some o)->G h' vs->D=h'.objs.size->vs.length<64/\Can prog w up (κ h') kd (h'.push (seqObj "list" vs.toArray 0)) D vs)
  (h:∀D h' tk vs h1 (out:Array Value) m,(∀b o,s.heap.get? b=some o->h1.get? b=some o)->G h1 vs->(∀b o,h1.get? b=some o->h'.get? b=some o)->s.heap.objs.size<=D->h1.objs.size<=D->h'.get? D=some (seqObj "list" out m)->out.toList.Perm vs->out.toList.Pairwise (leV (κ h1))->Q (.ref D) { s with heap:=h',toks:=tk }) :
  wpAny (model prog w) A (call (.builtin "sorted") [r]) Q E s:=by
 refine Calls.call_function_entry kind_sorted plain_sorted entry_sorted (args_sorted1 _) ?_;unfold Builtin.«sorted»;refine Qa (m:=checkCount "sorted" 1 1 _) (Qf ?_);refine Qa (col A.in1 E _ hh λh1 tk vs k1 z1 g1=>?_);obtain⟨len,_⟩:=can h1 vs h1.objs.size k1 g1 rfl;refine Qa (wpAny_newList ?_ (by rw[XQ];omega));obtain⟨_,cn⟩:=can h1 vs h1.objs.size k1 g1 rfl;have hoL:(h1.push (seqObj "list" vs.toArray 0)).get? h1.objs.size=some (seqObj "list" vs.toArray 0):=Qy _ rfl;refine Qa (Xf (Q9 (s:={ s with heap:=h1.push (seqObj "list" vs.toArray 0),toks:=tk }) slot_list_sort ⟨_,hoL,rfl⟩ entry_list_sort (iA hoL cn hu len λout p1 p2=>⟨_,rfl,?_⟩) (args_list_sort _)));obtain⟨m,at'⟩:=eP (vs:=vs) (out:=out) hoL;exact Qf ⟨_,rfl,h _ _ _ vs h1 out m k1 g1 (λb o e=>dW (QF (Qt e)) (Qe _ e)) z1 (Qg _) at' p1 p2⟩
theorem uL {T:String} {r:Addr} {n:Nat} {P:Nat->Value->Prop} {OK:Heap->Prop} {R:List Value->Shared->Prop} (K:PySem.W.KdlSrc prog w T r d n P OK) (hh:A.handled=none) (ok:OK s.heap) (hn:n<=sizeLine)
  (h:∀(g:Heap) (tk:Nat) (acc:Array Value),(∀b o,s.heap.get? b=some o->g.get? b=some o)->s.heap.objs.size<=g.objs.size->PySem.ItemsOf P acc n->R acc.toList { s with heap:=g,toks:=tk }):wpAny (model prog w) A (collect (.ref r)) R E s:=by
 obtain⟨l1,l2⟩:=K.there _ ok;unfold collect;refine Qa (wpAny_runValue (X3 entry_proto_collect' ?_));rw[XD PySem.F.plain_proto_collect _];refine Qa (XM (Qf ⟨plainId_quiet PySem.F.plain_list_iadd _,X3 entry_list_iadd' ?_⟩));rw[XD PySem.F.plain_list_iadd _]
 refine XV (PySem.W.kdl_extend (A:=A) (s:={ s with heap:=s.heap.push { cls:=.type "list", data:=.seq ([]:List Value).toArray } }) (R:=λq s'=>∃(g:Heap) (tk:Nat) (acc:Array Value) (c:Nat),q=.ok (.ret (.ref s.heap.objs.size))/\s'={ s with heap:=g,toks:=tk } /\
   (∀b o,s.heap.get? b=some o->g.get? b=some o)/\g.get? s.heap.objs.size=some { cls:=.type "list", dict:=none,data:=.seq acc c,slots:=#[] }/\PySem.ItemsOf P acc n)
  K hh (K.keep _ _ ok λb _ o e=>Qe _ e) s.heap.objs.size (Nat.ne_of_gt l1) (Nat.ne_of_gt l2) (.ref s.heap.objs.size) 0 (Qy _ rfl)
  (λg tk acc c k at' it=>⟨g,tk,acc,c,rfl,rfl,λb o e=>k b o (QF (Qt e)) (Qe _ e),at',it⟩) hn) (λfn s' x=>?_) λe s' x=>?_
 ·cases fn with
  | done f =>
   obtain⟨g,tk,acc,c,e,rfl,k,at',it⟩:=x;cases e;exact Qa (wpAny_load at' (Qf (h g tk acc k (XT (Qt at')) it)))
  | again c1 =>
   refine⟨x.1,codeAny_mono x.2 λq s2 y=>?_⟩;obtain⟨g,tk,acc,c,rfl,rfl,k,at',it⟩:=y;exact Qa (wpAny_load at' (Qf (h g tk acc k (XT (Qt at')) it)))
 obtain⟨_,_,_,_,z,_⟩:=x;cases z
end
end Tm
set_option maxHeartbeats 4000000
namespace Tm
open PySem PySem.Spec PyProof.Rows L2
def kb:Key->Key->Bool
 | .inl i,.inl j=>decide (i<j)
 | .inl _,.inr _=>true
 | .inr _,.inl _=>false
 | .inr x,.inr y=>decide (x.cps.toList<y.cps.toList)
def lb:List Key->List Key->Bool
 | [],[]=>false
 | [],_::_=>true
 | _::_,[]=>false
 | a::as,b::bs=>kb a b || (decide (a=b)&&lb as bs)
theorem wg {x y:Str} (e:x.cps.toList=y.cps.toList):x=y:=by cases x;cases y;exact congrArg Str.mk (Array.toList_inj.mp e)
theorem kN (a:Key):kb a a=false:=by
 cases a with
 | inl i=>exact Qw (Int.lt_irrefl _)
 | inr x=>exact Qw (List.lt_irrefl _)
theorem yd (a b:Key):kb a b=true\/a=b\/kb b a=true:=by
 cases a with
 | inl i =>
  cases b with
  | inl j =>
   rcases Int.lt_trichotomy i j with h|h|h
   ·exact .inl (Qu h)
   ·exact .inr (.inl (by rw[h]))
   exact .inr (.inr (Qu h))
  | inr y=>exact .inl rfl
 | inr x =>
 cases b with
 | inl j=>exact .inr (.inr rfl)
 | inr y =>
 by_cases h1:x.cps.toList<y.cps.toList
 ·exact .inl (Qu h1)
 by_cases h2:y.cps.toList<x.cps.toList
 ·exact .inr (.inr (Qu h2))
 exact .inr (.inl (by rw[wg (List.le_antisymm (List.not_lt.mp h2) (List.not_lt.mp h1))]))
theorem uf {a b c:Key} (h1:kb a b=true) (h2:kb b c=true):kb a c=true:=by
 cases a with
 | inl i =>
  cases c with
  | inr z=>rfl
  | inl k =>
  cases b with
  | inr y=>cases h2
  | inl j=>exact Qu (Int.lt_trans (Xv h1) (Xv h2))
 | inr x =>
 cases b with
 | inl j=>cases h1
 | inr y =>
 cases c with
 | inl k=>cases h2
 | inr z=>exact Qu (List.lt_trans (Xv h1) (Xv h2))
theorem kL:∀l:List Key,lb l l=false
 | []=>rfl
 | a::l=>by unfold lb;rw[kN,kL l];simp
theorem kK:∀x y:List Key,lb x y=true\/x=y\/lb y x=true
 | [],[]=>.inr (.inl rfl)
 | [],_::_=>.inl rfl
 | _::_,[]=>.inr (.inr rfl)
 | a::x,b::y=>by
  unfold lb;rcases yd a b with h|rfl|h
  ·exact .inl (by rw[h];rfl)
  ·rcases kK x y with h|rfl|h
   ·exact .inl (by rw[h];simp)
   ·exact .inr (.inl rfl)
   exact .inr (.inr (by rw[h];simp))
  exact .inr (.inr (by rw[h];rfl))
theorem d_:∀{x y z:List Key},lb x y=true->lb y z=true->lb x z=true
 | [],_,[],h1,h2=>by cases h2':(‹List Key›) with
  | nil=>rw[h2']at h1;cases h1
  | cons _ _=>rw[h2']at h2;cases h2
 | [],_,_::_,_,_=>rfl
 | _::_,[],_,h1,_=>by cases h1
 | _::_,_::_,[],_,h2=>by cases h2
 | a::x,b::y,c::z,h1,h2=>by
  unfold lb at h1 h2 ⊢;rw[Bool.or_eq_true,Xr,decide_eq_true_eq] at *;rcases h1 with h1|⟨rfl,h1⟩
  ·rcases h2 with h2|⟨rfl,h2⟩
   ·exact .inl (uf h1 h2)
   exact .inl h1
  rcases h2 with h2|⟨rfl,h2⟩
  ·exact .inl h2
  exact .inr ⟨rfl,d_ h1 h2⟩
def leK (x y:List Key):Prop:=lb y x=false
theorem mF {x y:List Key} (h1:leK x y) (h2:leK y x):x=y:=by
 rcases kK x y with h|h|h
 ·rw[h2]at h;cases h
 ·exact h
 rw[h1]at h;cases h
theorem ra (x y:List Key):leK x y\/leK y x:=by
 cases h:lb y x with
 | false=>exact .inl h
 | true =>
 refine .inr ?_
 cases h2:lb x y with
 | false=>exact h2
 | true=>have:=d_ h h2;rw[kL]at this;cases this
noncomputable def yc:PyProof.Rows.KeyOrd where
 α:=List Key
 blt:=lb
 irrefl:=kL
 trans _ _ _ h1 h2:=d_ h1 h2
 negTrans a b c h:=by
  rcases kK a b with h1|rfl|h1
  ·exact .inl h1
  ·exact .inr h
  exact .inr (d_ h1 h)
 total a b h1 h2:=mF h2 h1
def sh1:Key->Bool
 | .inl _=>false
 | .inr _=>true
def sh2:Key ⊕ List Key->Bool ⊕ List Bool
 | .inl k=>.inl (sh1 k)
 | .inr ks=>.inr (ks.map sh1)
def flat:av->List Key
 | []=>[]
 | .inl k::r=>k::flat r
 | .inr ks::r=>ks++flat r
theorem gI (a b:Key) (x y:List Key):lb (a::x) (b::y)=(kb a b || (decide (a=b)&&lb x y)):=rfl
theorem on:∀{x y:List Key} {u v:List Key},x.length=y.length->lb (x++u) (y++v)=(lb x y || (decide (x=y)&&lb u v))
 | [],[],u,v,_=>by simp[lb]
 | a::x,b::y,u,v,h=>by
  rw[List.cons_append,List.cons_append,gI,gI,on (by simpa using h)];by_cases e:a=b
  ·subst e;simp[kN]
  simp[e]
section
variable {prog:Program} {w:World} {A:Around} {E:A0} {s:Shared}
theorem zE {x y:Key} {u v:Value} {R:A0} (e:sh1 x=sh1 y) (hx:db x u=true) (hy:db y v=true) (h:R (.bool (kb x y)) s):wpAny (model prog w) A (compareOp .Lt u v) R E s:=by
 rcases aK hx with⟨i,t,rfl,rfl⟩|⟨z,t,rfl,rfl⟩
 ·rcases aK hy with⟨j,t',rfl,rfl⟩|⟨z',t',rfl,rfl⟩
  ·exact lt_int h
  cases e
 rcases aK hy with⟨j,t',rfl,rfl⟩|⟨z',t',rfl,rfl⟩
 ·cases e
 exact PyProof.Rows.lt_str h
theorem vS {x y:List Key} {a b:Addr} {P:Fin->Shared->Prop} (e:x.map sh1=y.map sh1) (hx:IsTupleKey (au prog w) s.heap x a) (hy:IsTupleKey (au prog w) s.heap y b) (h:P (.done (.ret (.bool (lb x y)))) s) :
  wpAny (model prog w) A (Builtin.«tuple.__lt__» ⟨[.ref a,.ref b],[]⟩) P E s:=by
 have hTb:=hy.typeIs;obtain⟨oa,xs,na,hoa,_,hda,hia⟩:=hx;obtain⟨ob,ys,nb,hob,_,hdb,hib⟩:=hy;show wpAny _ _ (isInstance (.ref b) (.type "tuple") >>= _) _ _ s;refine Qa (wpAny_isInstance hTb isSubtype_tuple_tuple ?_);simp only[XZ,QH,XA];refine Qa (wpAny_tupleItemsOf hoa hda ?_);refine Qa (wpAny_tupleItemsOf hob hdb ?_);refine Qa ?_
 have zz:xs.size=ys.size:=by
  have:=congrArg List.length e;rw[Qd,Qd,hia.length,hib.length,Qm,Qm]at this;exact this
 refine wpAny_forIn_list _
  (λrest r s'=>r.1=none/\s'=s/\∃x' y' xs' ys',rest=List.zip xs' ys'/\ItemsAre (au prog w) x' xs'/\ItemsAre (au prog w) y' ys'/\lb x' y'=lb x y/\x'.map sh1=y'.map sh1)
  _ ?_ ?_ _ _ ⟨rfl,rfl,x,y,xs.toList,ys.toList,rfl,hia,hib,rfl,e⟩
 ·rintro⟨u,v⟩ rest r s' ⟨hr,rfl,x',y',xs',ys',hz,hx',hy',hdec,hsh⟩
  cases hx' with
  | nil=>simp at hz
  | @cons k1 u' x'' xs'' h1 hx'' =>
  cases hy' with
  | nil=>simp at hz
  | @cons k2 v' y'' ys'' h2 hy'' =>
  simp only[List.zip_cons_cons,X0,Prod.mk.injEq]at hz;obtain⟨⟨rfl,rfl⟩,rfl⟩:=hz;rw[Qx,Qx]at hsh;injection hsh with s1 s2;refine Qa ((au prog w).eqBool (a:=k1) (b:=k2) h1 h2 ?_);by_cases hk:k1=k2
  ·subst hk;rw[Qu rfl];simp only[XZ,QH,XA];refine Qf ⟨rfl,rfl,x'',y'',xs'',ys'',rfl,hx'',hy'',?_,s2⟩;rw[<-hdec]
   conv=>rhs;unfold lb
   rw[kN];simp
  rw[Qw hk];simp only[Bool.not_false,if_true];have hf:lb x y=kb k1 k2:=by rw[<-hdec];unfold lb;simp[hk]
  rw[hf]at h;refine Qa (wpAny_rule (Qa ?_));refine zE s1 h1 h2 ?_;exact Qa (Qf (Qf (Qf h)))
 rintro⟨r1,r2⟩ s' ⟨hr,rfl,x',y',xs',ys',hz,hx',hy',hdec,hsh⟩;simp only at hr;subst hr;refine Qf ?_
 have e0:lb x y=false:=by
  rw[<-hdec]
  cases hx' with
  | nil=>cases hy' with
   | nil=>rfl
   | cons _ _=>cases hsh
  | cons _ _=>cases hy' with
   | nil=>cases hsh
   | cons _ _=>simp at hz
 rw[e0]at h;have:Builtin.Tuple.tupleCompareSizes .Lt xs.size ys.size=.bool false:=by rw[zz];simp[Builtin.Tuple.tupleCompareSizes]
 show P (.done (.ret (Builtin.Tuple.tupleCompareSizes .Lt xs.size ys.size))) s';rw[this];exact h
theorem xq {x y:List Key} {a b:Addr} {R:A0} (hu:A.units<cLine) (e:x.map sh1=y.map sh1) (hx:IsTupleKey (au prog w) s.heap x a) (hy:IsTupleKey (au prog w) s.heap y b) (h:R (.bool (lb x y)) s) :
  wpAny (model prog w) A (compareOp .Lt (.ref a) (.ref b)) R E s:=by
 show wpAny _ _ (richCompare .Lt _ _) _ _ _;exact wpAny_richCompare_same_room (op:=.Lt) hx.typeIs hy.typeIs F.slot_tuple_lt (Q9 F.slot_tuple_lt hx.typeIs F.entry_tuple_lt (vS e hx hy ⟨_,rfl,(λe=>nomatch e),h⟩) (F.args_tuple_lt_2 _ _)) hu
theorem ug {x y:av} {xs ys:List Value} {b:Bool} {Q:Bool->Shared->Prop} (hu:A.units<cLine) (hx:TK.Its (au prog w) s.heap x xs) (hy:TK.Its (au prog w) s.heap y ys) (e:x.map sh2=y.map sh2):∀i,(i=0->b=true->∃k r,x=.inl (.inr k)::r)->Q (lb (flat x) (flat y)) s ->
  PySem.W.KatLex prog w A b false Q (xs.zip ys) i s:=by
 induction hx generalizing y ys with
 | nil =>
  cases hy with
  | nil=>intro i _ q;exact PySem.W.kat_nil q
  | cons _ _=>cases e
 | @cons k1 u x' xs' h1 t1 ih =>
 cases hy with
 | nil=>cases e
 | @cons k2 v y' ys' h2 t2 =>
 intro i hb q;rw[Qx,Qx]at e;injection e with e1 e2;refine PySem.W.kat_cons (TK.it_eq (kH prog w) hu h1 h2 (PySem.W.kat_go (λc=>PySem.W.kat_yes (ih t2 e2 _ (λz=>absurd z (Nat.succ_ne_zero _)) ?_)) (λc=>PySem.W.kat_no ?_)))
 ·obtain rfl:k1=k2:=by simpa using c
  have:lb (flat (k1::x')) (flat (k1::y'))=lb (flat x') (flat y'):=by
   cases k1 with
   | inl k=>show lb (k::flat x') (k::flat y')=_;rw[gI,kN];simp
   | inr ks=>show lb (ks++flat x') (ks++flat y')=_;rw[on rfl,kL];simp
  rw[this]at q;exact q
 have ne:k1≠k2:=by simpa using c
 cases k1 with
 | inl k =>
  cases k2 with
  | inr js=>cases e1
  | inl j =>
  have hkj:k≠j:=λz=>ne (by rw[z]);have:lb (flat (.inl k::x')) (flat (.inl j::y'))=kb k j:=by show lb (k::flat x') (j::flat y')=_;rw[gI];simp[hkj]
  rw[this]at q;have e1:sh1 k=sh1 j:=Sum.inl.inj e1;by_cases c1:(b&&i==0)=true
  ·rw[c1];rw[Xr]at c1;obtain⟨k',r,ek⟩:=hb (by simpa using c1.2) c1.1;injection ek with ek _;injection ek with ek;subst ek;rcases aK (show db (.inr k') u=true from h1) with⟨_,_,z,_⟩|⟨_,t,z,rfl⟩
   ·cases z
   cases z;rcases aK (show db j v=true from h2) with⟨_,_,rfl,_⟩|⟨z',t',rfl,rfl⟩
   ·cases e1
   exact oneLt_str q
  rw[show (b&&i==0)=false by simpa using c1];exact PySem.W.kat_one _ _ (zE e1 h1 h2 q)
 | inr ks =>
 cases k2 with
 | inl j=>cases e1
 | inr js =>
 obtain⟨a1,rfl,g1⟩:=h1;obtain⟨a2,rfl,g2⟩:=h2;have e1:ks.map sh1=js.map sh1:=Sum.inr.inj e1;have len:ks.length=js.length:=by have:=congrArg List.length e1;simpa using this
 have hkj:ks≠js:=λz=>ne (by rw[z]);have:lb (flat (.inr ks::x')) (flat (.inr js::y'))=lb ks js:=by show lb (ks++flat x') (js++flat y')=_;rw[on len];simp[hkj]
 rw[this]at q
 have c1:(b&&i==0)=false:=by
  cases c1:(b&&i==0) with
  | false=>rfl
  | true =>
  rw[Xr]at c1;obtain⟨k',r,ek⟩:=hb (by simpa using c1.2) c1.1;cases ek
 rw[c1];exact PySem.W.kat_one _ _ (xq hu e1 g1 g2 q)
end
def mJ (bs:A3) (tk:Addr->av):PyProof.Rows.KeyKind:={ yc with
 keyOf:=λv=>match v with
  | .ref b=>if b∈bs then some (flat (tk b)) else none
  | _=>none
 dflt:=[] }
theorem jF {bs:A3} {tk:Addr->av} {v:Value} {k:List Key} (e:(mJ bs tk).keyOf v=some k):∃b,v=.ref b/\b∈bs/\k=flat (tk b):=by
 have no:¬(none:Option (List Key))=some k:=λz=>nomatch z
 cases v with
 | ref b =>
  have e:(if b∈bs then some (flat (tk b)) else none)=some k:=e;by_cases c:b∈bs
  ·rw[Qs c]at e;exact⟨b,rfl,c,(QC e).symm⟩
  rw[Qn c]at e;cases e
 | _=>exact absurd e no
theorem fP {bs:A3} (tk:Addr->av) {b:Addr} (h:b∈bs):(mJ bs tk).keyOf (.ref b)=some (flat (tk b)):=Qs h
def Shp (b:Bool) (bs:A3) (tk:Addr->av):Prop:=(∀a∈bs,∀c∈bs,(tk a).map sh2=(tk c).map sh2)/\∀a∈bs,if b=true then ∃k r,tk a=.inl (.inr k)::r else ∃k r,tk a=.inr k::r
section
variable {prog:Program} {w:World}
theorem cj {h h':Heap} {k:av} {a:Addr} (x:TK.IsT (au prog w) h k a) (ks:∀b o,h.get? b=some o->o.cls=.type "tuple" -> h'.get? b=some o):TK.IsT (au prog w) h' k a:=by
 obtain⟨o,items,n,h1,h2,h3,h4⟩:=x;refine⟨o,items,n,ks _ _ h1 h2,h2,h3,h4.imp λk v q=>?_⟩
 cases k with
 | inl k=>exact q
 | inr ks' =>
 obtain⟨c,e,o,items,n,h1,h2,h3,h4⟩:=q;exact⟨c,e,o,items,n,ks _ _ h1 h2,h2,h3,h4⟩
theorem mX {h:Heap} {a:Addr} {o:Obj} {bs:A3} {tk:Addr->av} {b:Bool} (ho:h.get? a=some o) (hc:o.cls≠.type "tuple") (p:∀c∈bs,TK.IsT (au prog w) h (tk c) c) (sp:Shp b bs tk) :
  Can prog w (λA=>A.units<cLine) (mJ bs tk) (tuples' b) h a (bs.map Value.ref) where
 key v hv:=by
  obtain⟨c,hc,rfl⟩:=Ql.mp hv;exact⟨_,fP tk hc⟩
 lt A s hu ks:=by
  intro E x y k1 k2 Q h1 h2 q;obtain⟨c1,rfl,m1,rfl⟩:=jF h1;obtain⟨c2,rfl,m2,rfl⟩:=jF h2;have kp:∀b o',h.get? b=some o'->o'.cls=.type "tuple" -> s.heap.get? b=some o':=λb o' e ec=>ks _ _ (λz=>by rw[z,ho]at e;cases e;exact hc ec) e;obtain⟨o1,i1,n1,g1,_,d1,t1⟩:=cj (p c1 m1) kp;obtain⟨o2,i2,n2,g2,_,d2,t2⟩:=cj (p c2 m2) kp;have e:=sp.1 _ m1 _ m2
  have ez:decide (i1.size<i2.size)=false:=by
   have l1:∀{k:av} {vs:List Value},TK.Its (au prog w) s.heap k vs->k.length=vs.length:=by
    intro k vs q
    induction q with
    | nil=>rfl
    | cons _ _ ih=>simp[ih]
   have:=congrArg List.length e;rw[Qd,Qd,l1 t1,l1 t2,Qm,Qm]at this;rw[this];exact Qw (X7 _)
  refine PySem.W.kat_lt g1 d1 g2 d2 ?_;rw[ez];refine ug hu t1 t2 e 0 (λ_ hb=>?_) q;have:=sp.2 _ m1;rw[Qs hb]at this;exact this
 kind h2 A E s Q ks hq:=by
  have kp:∀b o',h.get? b=some o'->o'.cls=.type "tuple" -> s.heap.get? b=some o':=λb o' e ec=>ks _ _ (λz=>by rw[z,ho]at e;cases e;exact hc ec) e
  have all:∀{l:A3},(∀c∈l,c∈bs)->∃fs:List Value,fs.length=l.length/\PySem.W.KatTups s.heap (l.map Value.ref) fs/\∀f∈fs,PySem.W.Looks (model prog w) s.heap (typeOf f) (.type (if b=true then "str" else "tuple")):=by
   intro l
   induction l with
   | nil=>intro _;exact⟨[],rfl,.nil,λf hf=>nomatch hf⟩
   | cons c l ih =>
   intro hl;obtain⟨fs,z1,z2,z3⟩:=ih λc h=>hl c (Qp _ h);have hcb:=hl c (by simp);obtain⟨o1,i1,n1,g1,cl,d1,t1⟩:=cj (p c hcb) kp;have sp2:=sp.2 c hcb
   cases b with
   | true =>
    rw[Qs rfl]at sp2 ⊢;obtain⟨k,r,ek⟩:=sp2;rw[ek]at t1;generalize hv:i1.toList=vs at t1
    cases t1 with
    | @cons _ v _ vs h1 _ =>
    rcases aK (show db (.inr k) v=true from h1) with⟨_,_,z,_⟩|⟨_,t,z,rfl⟩
    ·cases z
    refine⟨_::fs,by simp[z1],.cons g1 cl d1 (by rw[<-Q7,hv];rfl) z2,λf hf=>?_⟩;rcases Qj.mp hf with rfl|hf
    ·exact PySem.W.Looks.of_pure rfl
    exact z3 f hf
   | false =>
   rw[Qn Qr]at sp2 ⊢;obtain⟨k,r,ek⟩:=sp2;rw[ek]at t1;generalize hv:i1.toList=vs at t1
   cases t1 with
   | @cons _ v _ vs h1 _ =>
   obtain⟨c',rfl,o2,i2,n2,g2,cl2,_⟩:=h1;refine⟨_::fs,by simp[z1],.cons g1 cl d1 (by rw[<-Q7,hv];rfl) z2,λf hf=>?_⟩;rcases Qj.mp hf with rfl|hf
   ·exact λA Q E s' k q=>wpAny_typeOf_ref (k _ _ g2) (by rw[cl2];exact q)
   exact z3 f hf
  obtain⟨fs,l,kt,hf⟩:=all (l:=bs) λ_ h=>h;rw[Qd]at h2;refine PySem.W.kat_kind (T:=.type (if b=true then "str" else "tuple")) kt (by omega) hf (by cases b <;> decide) ?_;have:(Value.type (if b=true then "str" else "tuple") != Value.type "tuple")=b:=by cases b <;> decide
  rw[this];exact hq
end
end Tm
namespace LZ
open PySem
section
variable {prog:Program} {w:World} {A:Around} {E:A0} {s:Shared}
abbrev IsZ (h:Heap) (z TI TO:Addr) (f0:Value) (f1:Bool):Prop :=
 h.get? z=some { cls:=.type "zip", dict:=none,data:=.fields #[f0,.bool f1,.bool false,.ref TI,.ref TO],slots:=#[] }
structure Apart5 (z TI TO i1 i2 l:Addr):Prop where
 TIz:TI≠z
 TOz:TO≠z
 i1z:i1≠z
 i2z:i2≠z
 TITO:TI≠TO
 TIi1:TI≠i1
 TIi2:TI≠i2
 TOi1:TO≠i1
 TOi2:TO≠i2
 i12:i1≠i2
 lz:l≠z
 lTO:l≠TO
 li1:l≠i1
 li2:l≠i2
theorem xk {a:Addr} {o:Obj} {Q:Option Obj->Shared->Prop} (ho:s.heap.get? a=some o) (h:Q (some o) s):wpAny (model prog w) A (loadIfAlive a) Q E s:=by
 have h':Q (s.heap.get? a) s:=by rw[ho];exact h
 exact λ_ _ _=>h'
theorem next_end {z TI TO i1 i2 l:Addr} {f0:Value} {f1:Bool} {k:Nat} {xs:Array Value} {a b:Value} {Q:Option Value->Shared->Prop} (hh:A.handled=none) (D:Apart5 z TI TO i1 i2 l)
  (hz:IsZ s.heap z TI TO f0 f1) (hf:(f0=.none/\f1=false/\∃a b,IsPair s.heap TO a b)\/∃(T:Addr) (oT:Obj),f0=rawInt (T:Nat)/\s.heap.get? T=some oT) (hTI:IsPair s.heap TI (.ref i1) (.ref i2)) (h1:s.heap.IsListIter i1 l k) (hl:s.heap.IsList l xs) (hv:xs[k]?=none)
  (hQ:∀h',(∀c o,c≠z->c≠i1->s.heap.get? c=some o->h'.get? c=some o)->Q none { s with heap:=h' }):wpAny (model prog w) A (pyNext (.ref z)) Q E s:=by
 have hTy:s.TypeIs (.ref z) "zip" := ⟨_,hz,rfl⟩;unfold pyNext
 refine Qa (wpAny_attempt (Xq (name:=Str.ofString "__next__") hTy F.slot_zip_next
  (Q9 F.slot_zip_next hTy F.entry_zip_next ?_ (F.args_zip_next_1 _))))
 show wpAny _ _ (field (.ref z) 2 >>= _) _ _ _;refine Qa (XE hz rfl (x:=.bool false) rfl ?_);show wpAny _ _ (field (.ref z) 3 >>= _) _ _ _;refine Qa (XE hz rfl (x:=.ref TI) rfl ?_);refine Qa (XH hTI rfl ?_);show wpAny _ _ (Builtin.SmallTypes.ownedTupleIsFree (.ref z) >>= _) _ _ _;refine Qa ?_;unfold Builtin.SmallTypes.ownedTupleIsFree;refine Qa (XE hz rfl (x:=f0) rfl ?_)
 have fin:∀h' e,(∀c o,c≠z->c≠i1->s.heap.get? c=some o->h'.get? c=some o)->(∃o,h'.get? e=some o/\o.cls=.type "StopIteration") ->
   wpAny (model prog w) A (do if <-isInstance (.ref e) (.type "StopIteration") then pure none else throw (.ref e)) Q E { s with heap:=h' }:=λh' e hk ⟨o,ho,hc⟩ =>
  Qa (wpAny_isInstance (T := "StopIteration") (b:=true) ⟨o,ho,hc⟩ isSubtype_stop (Qf (hQ _ hk)))
 rcases hf with⟨e1,e2,a,b,hTO⟩|⟨T,oT,e1,hT⟩
 ·subst e1 e2;refine Qf ?_;simp only[if_true];refine Qa (wpAny_rule ?_);refine Qa (XE hz rfl (x:=.ref TO) rfl ?_);refine Qa (XR hz (by simp) λh₁ hz1 hs₁=>?_)
  replace hz1:IsZ h₁ z TI TO .ellipsis false:=hz1
  refine Qa ?_;simp only[List.zipIdx_cons,List.zipIdx_nil,List.forIn_cons,List.forIn_nil];refine Qa (Qa (wpAny_onRaise ?_));show wpAny _ _ (Builtin.SmallTypes.nextOf (.ref i1) >>= _) _ _ _;refine Qa (wpAny_nextOf_list_end hh (h1.extBut hs₁.extBut D.i1z) (hl.extBut hs₁.extBut D.lz) hv λh₂ e hs₂ he=>?_);obtain⟨oe,hoe,hce⟩:=he;have hz₂:IsZ h₂ z TI TO .ellipsis false:=hs₂ _ _ D.i1z.symm hz1;have hez:e≠z:=λx=>by subst x;rw[hz₂]at hoe;cases hoe;simp at hce
  refine XR hz₂ (by simp) λh₃ _ hs₃=>?_;exact fin h₃ e (λc o c1 c3 x=>hs₃.extBut _ _ c1 (hs₂ _ _ c3 (hs₁.extBut _ _ c1 x))) ⟨oe,hs₃.extBut _ _ hez hoe,hce⟩
 subst e1;show wpAny _ _ (loadIfAlive ((T:Int).toNat) >>= _) _ _ _;rw[Q2];refine Qa (xk hT ?_);simp only[Option.isNone_some,QH,XA];refine Qa (XE hz rfl (x:=.bool f1) rfl ?_)
 cases f1 with
 | false =>
  simp only[show (Value.bool false != Value.bool true)=true from rfl,if_true];refine Qa (XR hz (by simp) λh₁ hz1 hs₁=>Qf ?_)
  replace hz1:IsZ h₁ z TI TO (rawInt T) true:=hz1
  simp only[QH,XA,List.forIn_toArray,List.forIn_cons,List.forIn_nil];refine Qa (Qa (Qa (Xf ?_)));show wpAny _ _ (Builtin.SmallTypes.nextOf (.ref i1) >>= _) _ _ _;refine Qa (wpAny_nextOf_list_end hh (h1.extBut hs₁.extBut D.i1z) (hl.extBut hs₁.extBut D.lz) hv λh₂ e hs₂ he=>?_);exact fin h₂ e (λc o c1 c3 x=>hs₂ _ _ c3 (hs₁.extBut _ _ c1 x)) he
 | true =>
 simp only[show (Value.bool true != Value.bool true)=false from rfl,QH,XA];refine Qf ?_;simp only[QH,XA,List.forIn_toArray,List.forIn_cons,List.forIn_nil];refine Qa (Qa (Qa (Xf ?_)));show wpAny _ _ (Builtin.SmallTypes.nextOf (.ref i1) >>= _) _ _ _;refine Qa (wpAny_nextOf_list_end hh h1 hl hv λh₂ e hs₂ he=>?_);exact fin h₂ e (λc o c1 c3 x=>hs₂ _ _ c3 x) he
end
theorem iw:mroOf (.type "dict")=pure [.type "dict", .type "object"]:=by rw[mroOf_type];kernel_rfl
theorem gz:typeLookup (.type "dict") "__new__" = pure (some (.builtin "dict.__new__")):=by rw[typeLookup_type,builtinLookup_eq_fast];kernel_rfl
theorem mY:TypeCalled "dict" "dict.__new__" "dict.__init__" :=
 ⟨by decide +kernel,by decide +kernel,⟨_,_,iw⟩,madeBy_type iw gz (by decide +kernel),by decide +kernel,by rw[isSubtype_type];kernel_rfl,F.slot_dict_init⟩
theorem gv (a:Value):checkTypeCall "dict" ⟨[a],[]⟩=pure ():=by kernel_rfl
theorem ir (a:Value):checkBuiltinCall "dict.__new__" ⟨[.type "dict", a],[]⟩=pure ():=by kernel_rfl
theorem iJ:entryFor table "dict.__new__" = some Builtin.«dict.__new__»:=entryFor_of_tree (by kernel_rfl)
theorem hZ:plainId "dict.__new__" = true:=by decide +kernel
theorem si:isSubtype (.type "dict") (.type "dict")=pure true:=by rw[isSubtype_type];kernel_rfl
theorem jN:entryFor table "dict.update.loop" = some Builtin.«dict.update.loop»:=entryFor_of_tree (by kernel_rfl)
theorem eI:plainId "dict.update.loop" = true:=by decide +kernel
structure ApartD (z TI TO i1 i2 l d:Addr):Prop extends Apart5 z TI TO i1 i2 l where
 dz:d≠z
 dTI:d≠TI
 dTO:d≠TO
 di1:d≠i1
 di2:d≠i2
 dl:d≠l
structure ZS (h:Heap) (z TI TO i1 i2 l d:Addr) (ty:String) (x:Str) (t:Tok) (xs:Array Value) (k:Nat):Prop where
 zf:(IsZ h z TI TO .none false/\∃a b,IsPair h TO a b)\/∃(T:Addr) (f1:Bool) (oT:Obj),IsZ h z TI TO (rawInt (T:Nat)) f1/\h.get? T=some oT/\T≠z/\T≠i1/\T≠i2/\T≠d
 ti:IsPair h TI (.ref i1) (.ref i2)
 a1:h.IsListIter i1 l k
 a2:h.IsStrIter i2 ty x t k
 li:h.IsList l xs
section
variable {prog:Program} {w:World} {K:Type} [DecidableEq K] {knd:KeyKind prog w K} {A:Around} {R:Result->Shared->Prop}
def eF (kvs:List (K × Value)) (ps:List (K × Value)):List (K × Value):=ps.foldl (λacc p=>stored acc p.1 p.2) kvs
theorem nC (kvs:List (K × Value)) (k:K) (v:Value):(stored kvs k v).length<=kvs.length+1:=by
 unfold stored
 split
 ·rw[Qd];exact zi
 rw[Qi];simp
variable {Q E:A0}
theorem i_ {s:Shared} (a:Value) (h:Q (.ref s.heap.objs.size) { s with heap:=s.heap.push { cls:=.type "dict", data:=.dict #[] } }) :
  codeAny (model prog w) A (.call (.builtin "dict.__new__") ⟨[.type "dict", a],[]⟩) (wants Q E) s:=by
 refine codeAny_call_builtin hZ iJ (wpAny_of_eq (ir a) ?_);have hsub:=si;have hmro:=iw;obtain⟨hp,g,d,tk,os⟩:=s;unfold Builtin.«dict.__new__»
 wp_walk
 exact h
end
end LZ
namespace L2
open PySem PySem.Spec PyProof.Rows
def cZ (kvs:List (Key × V)):List (Key × V)->List (Key × V)
 | []=>kvs
 | p::r=>cZ (bq kvs p.1 p.2) r
theorem ub:∀{qs:List (Key × V)} {ps:List (Key × Value)} {kvs:List (Key × V)} {vs:List (Key × Value)},KV qs ps->KV kvs vs->KV (cZ kvs qs) (LZ.eF vs ps)
 | [],_,_,_,h,r=>by cases h;exact r
 | q::qs,p::ps,kvs,vs,h,r=>by
  cases h with
  | cons h1 h2 =>
  show KV (cZ (bq kvs q.1 q.2) qs) (LZ.eF (stored vs p.1 p.2) ps);rw[<-h1.1];exact ub h2 (r.put q.1 h1.2)
theorem paired_get {α β:Type} {F:α->β->Prop}:∀{xs:List α} {ys:List β},xs.length=ys.length->(∀(j:Nat) x y,xs[j]?=some x->ys[j]?=some y->F x y)->Paired F xs ys
 | [],[],_,_=>.nil
 | x::xs,y::ys,hl,h=>.cons (h 0 x y rfl rfl) (paired_get (by simpa using hl) λj a b e1 e2=>h (j+1) a b (by simpa using e1) (by simpa using e2))
theorem eT:∀(qs kvs:List (Key × V)),(cZ kvs qs).length<=kvs.length+qs.length
 | [],kvs=>Qg _
 | q::qs,kvs=>by
  have h1:=eT qs (bq kvs q.1 q.2);have h2:=bQ kvs q.1 q.2;show (cZ (bq kvs q.1 q.2) qs).length<=_;rw[Xm];exact zj h1 h2
section
variable {X:Cx} {a b:Expr} {ta:TA} {p1 p2 pos1 pos2:Pos}
end
end L2
namespace LZ
open PySem
section
variable {prog:Program} {w:World} {A:Around} {E:A0} {s:Shared}
theorem fN:typeLookup (.type "list") "__getattr__" = pure none:=by rw[typeLookup_type,builtinLookup_eq_fast];kernel_rfl
theorem iB:typeLookup (.type "list") "keys" = pure none:=by rw[typeLookup_type,builtinLookup_eq_fast];kernel_rfl
theorem dA:entryFor table "list.__getattribute__" = some Builtin.«object.__getattribute__» :=
 entryFor_alias (id' := "object.__getattribute__") (by kernel_rfl) (by decide +kernel) (by decide +kernel) (by kernel_rfl)
theorem gy (a:Addr) (xs:Array Value) (m:Nat) (sl:Array (Option Value)) (u:Tok) :
  Meets (Builtin.«object.__getattribute__» ⟨[.ref a,.str "keys" u],[]⟩) (λA R s=>s.heap.get? a=some { cls:=.type "list", dict:=none,data:=.seq xs m,slots:=sl }/\raisesAttr (.ref a) "keys" A R s) :=
 Meets.of_wp λprog w A R s hs=>by
  obtain⟨hp,g,d,tk,os⟩:=s;obtain⟨hx,hs⟩:=hs;have hT:(⟨hp,g,d,tk,os⟩:Shared).TypeIs (.ref a) "list" := ⟨_,hx,rfl⟩;have hmiss:=iB;have hname:(["__module__", "__name__", "__qualname__", "__doc__", "__annotations__"]:List Str).contains "keys" = false:=by decide +kernel
  unfold Builtin.«object.__getattribute__»
  repeat (any_goals (first|assumption|wp_step))
  try simp only[hname,QH,XA]
  repeat (any_goals (first|assumption|wp_step))
  exact wpAny_raiseAttrError hs.1 hs.2 (attrMsg_fits (by decide +kernel) (by decide +kernel))
theorem oq {a:Addr} {xs:Array Value} {m:Nat} {sl:Array (Option Value)} {Q:Option Value->Shared->Prop} (hx:s.heap.get? a=some { cls:=.type "list", dict:=none,data:=.seq xs m,slots:=sl }) (hA:A.handled=none)
  (h:∀h' tk,(∀c o,s.heap.get? c=some o->h'.get? c=some o)->Q none { s with heap:=h',toks:=tk }):wpAny (model prog w) A (getAttr? (.ref a) "keys") Q E s:=by
 obtain⟨hp,g,d,tk,os⟩:=s;have hT:∀tk',(⟨hp,g,d,tk',os⟩:Shared).TypeIs (.ref a) "list" := λ_=>⟨_,hx,rfl⟩;have f1:=sub_AttributeError;have f3:=F.slot_list_getattribute.lookup;have f4:=F.slot_list_getattribute.bind (.ref a);have f5:=fN;unfold getAttr? getAttrBy? getAttrBy
 repeat (any_goals (first|assumption|exact hT _|((with_reducible show wpAny _ _ (call (Value.builtin "list.__getattribute__") _ _) _ _ _);refine call_meets F.slot_list_getattribute (hT _) dA (F.args_list_getattribute_2 _ _) (gy a xs m sl _) ⟨hx,hA,λh' tk' e hx'=>?_⟩)|wp_step))
 obtain⟨t',u',he⟩:=hx'.there;show wpAny _ _ (getattributeRaised _ _ _ _ _ _ _) _ _ _;unfold getattributeRaised
 repeat (any_goals (first|assumption|wp_step))
 all_goals exact h _ _ hx'.keeps
end
section
variable {prog:Program} {w:World} {K:Type} [DecidableEq K] {knd:KeyKind prog w K} {A:Around} {R:Result->Shared->Prop}
def PairsAt (h:Heap) (xs:Array Value) (ka va:Nat->Value) (it d:Addr):Prop:=∀k,k<xs.size->∃(T:Addr) (o:Obj) (n:Nat),xs[k]?=some (.ref T)/\h.get? T=some o/\o.cls=.type "tuple" /\ o.data=.seq #[ka k,va k] n/\T≠it/\T≠d
theorem PairsAt.keep {h h':Heap} {xs:Array Value} {ka va:Nat->Value} {it d:Addr} (p:PairsAt h xs ka va it d) (hk:∀c o,c≠it->c≠d->h.get? c=some o->h'.get? c=some o):PairsAt h' xs ka va it d:=λk hlt =>
 let ⟨T,o,n,e1,e2,e3,e4,e5,e6⟩:=p k hlt;⟨T,o,n,e1,hk T o e5 e6 e2,e3,e4,e5,e6⟩
theorem oG {it l d:Addr} {xs:Array Value} {ka va:Nat->Value} (nid:d≠it) (nil:l≠it) (ndl:l≠d) (hh:A.handled=none) (ks:Nat->K) (hk:∀k,k<xs.size->knd.is (ks k) (ka k)=true) (hsz:xs.size<=sizeLine) :
  ∀(m k:Nat) (i:Int) (s:Shared) (kvs:List (K × Value)),xs.size-k=m->k<=xs.size->s.heap.IsListIter it l k->s.heap.IsList l xs->PairsAt s.heap xs ka va it d->s.heap.DictOf knd d kvs->kvs.length<=k ->
  (∀h' tk,h'.DictOf knd d (eF kvs ((List.range (xs.size-k)).map λj=>(ks (k+j),va (k+j))))->(∀c o,c≠it->c≠d->s.heap.get? c=some o->h'.get? c=some o)->R (.ok (.ret .none)) { s with heap:=h',toks:=tk }) ->
  codeAny (model prog w) A (.builtin "dict.update.loop" ⟨[.ref d,.ref it,rawInt i,.none],[]⟩) R s:=by
 intro m
 induction m with
 | zero =>
  intro k i s kvs hm hkk hit hl hp hd hkl hR;have hin:k=xs.size:=by exact zh hm hkk
  refine X3 jN ?_;rw[XD eI _];show wpAny _ A.in1 (pyNext (.ref it) >>= _) _ _ s;refine Qa (wpAny_pyNext_list_end (show A.in1.handled=none from hh) hit hl (by rw[hin];simp) λh' hkeep=>?_);show wpAny _ _ (Builtin.Dict.addKeywords d [] >>= _) _ _ _;refine Qa (Qf (Qf ?_))
  have hd':h'.DictOf knd d kvs:=by
   obtain⟨o,es,ep,e1,r⟩:=hd;exact⟨o,es,ep,hkeep d o nid e1,r⟩
  refine hR h' s.toks ?_ λc o c1 _ e=>hkeep c o c1 e;rw[hm];exact hd'
 | succ m ih =>
 intro k i s kvs hm hkk hit hl hp hd hkl hR;have hlt:k<xs.size:=by exact zg hm hkk
 obtain⟨T,oT,n,hx,hT,hTc,hTd,nTi,nTd⟩:=hp k hlt;refine X3 jN ?_;rw[XD eI _];show wpAny _ A.in1 (pyNext (.ref it) >>= _) _ _ s;refine Qa (wpAny_pyNext_list_item hit hl hx λh1 hit1 hs1=>?_);have k1:∀c o,c≠it->s.heap.get? c=some o->h1.get? c=some o:=λc o n1 e=>hs1.extBut c o n1 e
 have hd1:h1.DictOf knd d kvs:=by
  obtain⟨o,es,ep,e1,r⟩:=hd;exact⟨o,es,ep,k1 d o nid e1,r⟩
 have hT1:=k1 T oT nTi hT;refine Qa (Xf ?_);have hTy:(Shared.TypeIs { s with heap:=h1 } (.ref T) "tuple"):=⟨_,hT1,hTc⟩;refine Qa (wpAny_tryCatch ?_);unfold Builtin.Dict.pairItems;refine Qa (wpAny_typeOf hTy ?_);rw[Qs (by decide)];refine Qa (XH hT1 hTd (Qf ?_));show wpAny _ _ (holding [ka k,va k] (dictSet d (ka k) (va k))) _ _ _;refine Xf (wpAny_dictSet_pairs (hk k hlt) hd1 (λh2 hd2 hs2=>?_) (by exact ze hsz hkl hlt));have k2:∀c o,c≠it->c≠d->s.heap.get? c=some o->h2.get? c=some o:=λc o n1 n2 e=>hs2.extBut c o n2 (k1 c o n1 e);refine Qf ⟨plainId_quiet eI _,ih (k+1) (i+1) _ _ (by exact zd hm hlt) (by exact zc hlt) (hit1.extBut hs2.extBut (Ne.symm nid)) (hl.at λo e=>k2 l o nil ndl e) (hp.keep k2) hd2 (QQ (nC _ _ _) (by exact Ac hkl)) λh3 tk hd3 hk3=>?_⟩;refine hR h3 tk ?_ λc o c1 c2 e=>hk3 c o c1 c2 (k2 c o c1 c2 e);rw[show xs.size-k=(xs.size-(k+1))+1 from by exact zb hm hlt,List.range_succ_eq_map,Qx,Xw];have e:(List.range (xs.size-(k+1))).map (λj=>(ks (k+1+j),va (k+1+j)))=(List.range (xs.size-(k+1))).map ((λj=>(ks (k+j),va (k+j)))∘Nat.succ):=XJ λj _=>by simp[Function.comp,Nat.add_assoc,Nat.add_comm 1]
 rw[e]at hd3;exact hd3
variable {Q E:A0}
theorem oM {s:Shared} {l:Addr} {xs:Array Value} {ka va:Nat->Value} (hh:A.handled=none) (ks:Nat->K) (hk:∀k,k<xs.size->knd.is (ks k) (ka k)=true) (hsz:xs.size<=sizeLine) (hl:PlainL s.heap l xs)
  (hp:∀k,k<xs.size->∃(T:Addr) (o:Obj) (n:Nat),xs[k]?=some (.ref T)/\s.heap.get? T=some o/\o.cls=.type "tuple" /\ o.data=.seq #[ka k,va k] n)
  (h:∀h' tk,h'.DictOf knd s.heap.objs.size (eF [] ((List.range xs.size).map λj=>(ks j,va j)))->(∀c o,s.heap.get? c=some o->h'.get? c=some o)->Q (.ref s.heap.objs.size) { s with heap:=h',toks:=tk }) :
  wpAny (model prog w) A (call (.type "dict") [.ref l]) Q E s:=by
 refine callType_codes (Q₁:=λobj s1=>obj=.ref s.heap.objs.size/\s1={ s with heap:=s.heap.push { cls:=.type "dict", data:=.dict #[] } }) mY (gv _) F.entry_dict_init (i_ _ ⟨rfl,rfl⟩) ?_;rintro obj s1 ⟨rfl,rfl⟩;have up:∀c o,s.heap.get? c=some o->(s.heap.push { cls:=.type "dict", data:=.dict #[] }).get? c=some o:=λc o e=>Qe _ e;have hnew:(s.heap.push { cls:=.type "dict", data:=.dict #[] }).DictOf knd s.heap.objs.size []:=Heap.DictOf.new s.heap;have lt:∀{c o},s.heap.get? c=some o->s.heap.objs.size≠c:=λe=>Nat.ne_of_gt (Qt e);obtain⟨⟨c0,d0,dt0,sl0⟩,n0,ho,hoc,hod,hos⟩:=hl;have hoc:c0=.type "list" := hoc;have hod:d0=none:=hod;have hos:dt0=.seq xs n0:=hos;subst hoc hod hos;refine⟨hnew.typeIs,F.args_dict_init_2 _ _,?_⟩;unfold Builtin.«dict.__init__»;refine Qa ?_;unfold Builtin.Dict.selfAndRest;refine Qa (wpAny_notOrdered_dict hnew.typeIs ?_);show wpAny _ _ (pure (s.heap.objs.size,[Value.ref l])) _ _ _;refine Qf ?_;show wpAny _ _ (Builtin.Dict.updateFrom "dict.__init__" s.heap.objs.size (.ref l) [] .none) _ _ _;unfold Builtin.Dict.updateFrom;have hzT:Shared.TypeIs { s with heap:=s.heap.push { cls:=.type "dict", data:=.dict #[] } } (.ref l) "list" := ⟨_,up _ _ ho,rfl⟩;refine Qa (wpAny_typeOf hzT ?_);rw[Qs (by decide)];refine Qa (oq (up _ _ ho) (show A.in1.in1.handled=none from hh) λh3 tk k3=>?_);simp only[Option.isNone_none,if_true];refine Qa (wpAny_rule ?_);have hL3:h3.IsList l xs:=⟨_,k3 _ _ (up _ _ ho),rfl,n0,rfl⟩
 have hd3:h3.DictOf knd s.heap.objs.size []:=by
  obtain⟨o,es,ep,e1,r⟩:=hnew;exact⟨o,es,ep,k3 _ _ e1,r⟩
 obtain⟨od,es,ep,hd3',r3⟩:=id hd3;refine Qa (wpAny_pyIter_list hL3 ?_);refine Qf ⟨plainId_quiet eI _,?_⟩;have up4:∀c o,h3.get? c=some o->(h3.push { cls:=.type "list_iterator", data:=.fields #[.ref l,.int 0 0] }).get? c=some o:=λc o e=>Qe _ e;have lt3:∀{c o},h3.get? c=some o->c≠h3.objs.size:=λe=>QF (Qt e);refine oG (it:=h3.objs.size) (l:=l) (d:=s.heap.objs.size) (ka:=ka) (va:=va) (lt3 hd3') (lt3 (k3 _ _ (up _ _ ho))) (lt ho).symm (show A.in1.handled=none from hh) ks hk hsz xs.size 0 0 _ [] (by simp) (QT _) ⟨_,Qy _ rfl,rfl,rfl⟩ (hL3.at λo e=>up4 _ o e) (λk hlt=>?_) ⟨od,es,ep,up4 _ _ hd3',r3⟩ (Qg _) λh5 tk5 hd5 hk5=>?_
 ·obtain⟨T,o,n,e1,e2,e3,e4⟩:=hp k hlt;exact⟨T,o,n,e1,up4 _ _ (k3 _ _ (up _ _ e2)),e3,e4,lt3 (k3 _ _ (up _ _ e2)),(lt e2).symm⟩
 refine⟨rfl,h h5 tk5 (by simpa using hd5) λc o e=>hk5 c o (lt3 (k3 _ _ (up _ _ e))) (lt e).symm (up4 _ _ (k3 _ _ (up _ _ e)))⟩
end
end LZ
namespace L2
open PySem PySem.Spec PyProof.Rows
def uW (H:Hp) (v:V) (p:Str × V):Prop:=∃b,v=.ref b/\H b=some (.tup [.str p.1,p.2])
def fO (ps:List (Str × V)):List (Key × V):=ps.map λp=>((Sum.inr p.1:Key),p.2)
section
variable {X:Cx} {a:Expr} {ta:TA} {p1 pos1:Pos}
def o_ (K:PySem.W.Frag) (ta:TA):TE:=λσ H Q=>ta σ H λvs H1=>∃l xs ps,vs=[.ref l]/\SqL K H1 l xs/\xs.length<10000/\Paired (uW H1) xs ps/\∀d,H1 d=none->Q (.ref d) (upd H1 d (.dK (cZ [] (fO ps))))
theorem wT {H:Hp}:∀{xs:List V} {ps:List (Str × V)},Paired (uW H) xs ps->∀(j:Nat) x,xs[j]?=some x->∃y,ps[j]?=some y/\uW H x y
 | _,_,.nil=>λj x e=>by simp at e
 | _,_,.cons (a:=a) (b:=b) h t=>λj x e=>by
  cases j with
  | zero=>simp at e;subst e;exact⟨_,rfl,h⟩
  | succ j=>simp at e;obtain⟨y,e',f⟩:=wT t j x e;exact⟨y,by simpa using e',f⟩
theorem s_ {H:Hp}:∀{xs:List V} {ps:List (Str × V)},Paired (uW H) xs ps->xs.length=ps.length
 | _,_,.nil=>rfl
 | _,_,.cons h t=>by simp[s_ t]
theorem qO (hc:X.calm=true) (hg:Gl X "dict") (hm:X.mg "dict" = none) (ha:PA X [a] ta) (hs:starEach [a] X.env=[(false,eval a X.env)]:=by rfl):PE X (.Call (.Name "dict" p1) [a] [] pos1) (o_ X.K ta):=by
 intro pins s σ H Q I h;refine Call_ (dH I hg hm PyProof.Rows.boot_dict (Xz (thn (ha pos1 pins s σ H _ I h) λus s1 ⟨vs,H1,I1,r1,q1⟩=>?_) hs rfl));obtain⟨l,xs,ps,e,hl,hsm,hpr,q⟩:=q1;subst e;obtain⟨u1,e,ru1⟩:=dh r1;subst e;cases ru1;obtain⟨its,rv,pl,_⟩:=I1.list hl;have hits:its.length=xs.length:=rv.length.symm;have hps:=s_ hpr;have big:10000<sizeLine:=by decide
 have each:∀k,∃g:Value × Value × Str,k<its.length->∃(T:Addr) (o:Obj) (m:Nat) (v:V) (t:Tok),its[k]?=some (.ref T)/\s1.heap.get? T=some o/\o.cls=.type "tuple" /\ o.data=.seq #[g.1,g.2.1] m/\g.1=.str g.2.2 t/\ps[k]?=some (g.2.2,v)/\aN v g.2.1:=λk=>by
  by_cases hk:k<its.length
  ·have hx:xs[k]?=some (xs[k]'(by exact om3 hits hps hk)):=by simp
   obtain⟨y,hy,b,eb,hb⟩:=wT hpr k _ hx;obtain⟨u,hu,ru⟩:=rv.get hx;rw[eb]at ru;cases ru;obtain⟨its2,rv2,⟨o,e1,e2,n,e3⟩,_⟩:=I1.tuple (SqT.of hb);obtain⟨w1,w2,e4,r1,r2⟩:=lC rv2;subst e4;obtain⟨t,et⟩:=r1;subst et;exact⟨(.str y.1 t,w2,y.1),λ_=>⟨b,o,n,y.2,t,hu,e1,e2,e3,rfl,hy,r2⟩⟩
  exact⟨(.none,.none,Str.empty),λh=>absurd h hk⟩
 let g:=λk=>Classical.choose (each k);have hg':∀k,k<its.length->∃(T:Addr) (o:Obj) (m:Nat) (v:V) (t:Tok),its[k]?=some (.ref T)/\s1.heap.get? T=some o/\o.cls=.type "tuple" /\ o.data=.seq #[(g k).1,(g k).2.1] m/\(g k).1=.str (g k).2.2 t/\ps[k]?=some ((g k).2.2,v)/\aN v (g k).2.1:=λk=>Classical.choose_spec (each k);refine LZ.oM (knd:=au X.prog X.w) (l:=l) (xs:=its.toArray) (ka:=λk=>(g k).1) (va:=λk=>(g k).2.1) (I1.ok.hd hc) (λk=>(Sum.inr (g k).2.2:Key)) (λk hk=>?_) (by rw[Qk,hits];omega) pl (λk hk=>?_) λh3 tk hd3 kept=>?_
 ·rw[Qk]at hk;obtain⟨T,o,m,v,t,_,_,_,_,e5,_⟩:=hg' k hk;show (au X.prog X.w).is _ (g k).1=true;rw[e5];exact gs _ _ _ _
 ·rw[Qk]at hk;obtain⟨T,o,m,v,t,e1,e2,e3,e4,_⟩:=hg' k hk;exact⟨T,o,m,by simpa using e1,e2,e3,e4⟩
 rw[Qk]at hd3
 have kv:KV (fO ps) ((List.range its.length).map λj=>((Sum.inr (g j).2.2:Key),(g j).2.1)):=by
  unfold fO;refine paired_get (by simp[hits,hps]) λj x y e1 e2=>?_;rw[Qq]at e1 e2
  have hj:j<its.length:=by
   cases e:(List.range its.length)[j]? with
   | none=>rw[e]at e2;cases e2
   | some q=>have:=(Qc.mp e).1;simpa using this
  obtain⟨T,o,m,v,t,_,_,_,_,_,e6,e7⟩:=hg' j hj;rw[e6]at e1;rw[List.getElem?_range hj]at e2;cases e1;cases e2;exact⟨rfl,e7⟩
 have hnew:H1 s1.heap.objs.size=none:=I1.hok.fresh (Qg _)
 have I3:Inv X pins σ (upd H1 s1.heap.objs.size (.dK (cZ [] (fO ps)))) { s1 with heap:=h3,toks:=tk }:=I1.laid kept (Qg _) ⟨by
   have:=eT (fO ps) [];have e:(fO ps).length=ps.length:=by unfold fO;simp
   simp only[List.length_nil]at this
   omega,beq_eq_false_iff_ne.mpr (by
   have:@LT.lt Nat _ sysModules s1.heap.objs.size:=I1.big;intro e;have e':@Eq Nat s1.heap.objs.size sysModules:=e
   omega),_,ub kv .nil,hd3⟩
 exact⟨.ref s1.heap.objs.size,_,I3,rfl,q _ hnew⟩
end
end L2
namespace LS
open PySem PySem.Spec PyProof.Rows
def Led (w:World) (t:SetTable) (n:Nat):Prop:=w.params.followText "set-order" = true\/(t.led=true/\(n≠0->t.plain=false))
def iW (prog:Program) (w:World) (h:Heap) (a:Addr) (S:Str->Bool) (n:Nat):Prop:=∃o es ep t,h.get? a=some o/\o.ExactSet/\o.data=.set es ep t/\ElemsOf (strKind prog w) es.toList/\(∀k,S k=true↔∃e∈es.toList,(strKind prog w).is k e.2=true)/\es.size<scanBound/\t.fits es.size=true/\es.size=n/\Led w t es.size
section
variable {prog:Program} {w:World} {A:Around} {E:A0} {s:Shared} {a:Addr} {S:Str->Bool} {n:Nat}
variable {es' es:Array (Int × Value)}
theorem iW.put {h:Heap} {o:Obj} {ep:Nat} {t:SetTable} (ho:h.get? a=some o) (hex:o.ExactSet) (hd:o.data=.set es ep t) {t':SetTable}
  (hel:ElemsOf (strKind prog w) es'.toList) (hm:∀k,S k=true↔∃e∈es'.toList,(strKind prog w).is k e.2=true) (hb:es'.size<scanBound) (hf:t'.fits es'.size=true) (hn:es'.size=n) (hl:Led w t' es'.size) :
  (h.update a (Obj.putSet es' t')).get? a=some { o with data:=.set es' (ep+1) t' }/\iW prog w (h.update a (Obj.putSet es' t')) a S n:=by
 obtain⟨g,_⟩:=SetOf_store (knd:=strKind prog w) ho hex hd hel hm hb hf;exact⟨g,_,es',ep+1,t',g,hex,rfl,hel,hm,hb,hf,hn,hl⟩
theorem iW.congr {h:Heap} {S':Str->Bool} {m:Nat} (q:iW prog w h a S n) (e:∀k,S k=S' k) (f:n=m):iW prog w h a S' m:=by
 obtain⟨o,es,ep,t,h1,h2,h3,h4,h5,h6,h7,h8,h9⟩:=q;exact⟨o,es,ep,t,h1,h2,h3,h4,λk=>by rw[<-e k];exact h5 k,h6,h7,h8.trans f,h9⟩
abbrev bare (led:Bool):Obj:={ cls:=.type "set", dict:=none,data:=.set #[] 0 (.fresh 0 0 led) }
theorem iW.bare {h:Heap} (g:h.get? a=some (bare !(w.params.followText "set-order"))):iW prog w h a (λ_=>false) 0 :=
 ⟨_,#[],0,_,g,⟨rfl,rfl,rfl⟩,rfl,fun e he=>by simp at he,fun k=>by simp,by decide,rfl,rfl,by
  unfold Led
  cases e:w.params.followText "set-order" with
  | true=>exact .inl rfl
  | false=>exact .inr ⟨rfl,λz=>absurd rfl z⟩⟩
theorem uM (x:Value) {Q₁:A0} (h:Q₁ (.ref s.heap.objs.size) { s with heap:=s.heap.push (LS.bare !(w.params.followText "set-order")) }) :
  codeAny (model prog w) A (.call (.builtin "set.__new__") ⟨[.type "set", x],[]⟩) (wants Q₁ E) s:=by
 refine codeAny_of_tree ?_;show wpAny _ A.in1 (do checkBuiltinCall "set.__new__" ⟨[.type "set", x],[]⟩;again (.builtin "set.__new__" ⟨[.type "set", x],[]⟩)) _ _ s;refine Qa (wpAny_of_eq (F.newCall_set_1 x) (Qf ⟨plainId_quiet F.plain_set_new _,X3 F.entry_set_new ?_⟩));rw[XD F.plain_set_new _];unfold Builtin.«set.__new__» Builtin.Frozenset.newClass;have hsub:=sub_set_self;obtain⟨hp,g,d,tk,os⟩:=s;dsimp only
 wp_walk
 refine wpAny_askSetting (Qf ?_);dsimp only;simp only[newObj];exact Qa (wpAny_alloc (Qf (Qf h)))
end
theorem cu:Slot "set_iterator" "__next__" "set_iterator.__next__" :=
 .of (owner := "set_iterator") (n := "__next__") (by rw[typeLookup_type,builtinLookup_eq_fast];kernel_rfl) (by decide +kernel) (by decide +kernel) (by decide +kernel)
  (by first|exact .inl (by decide +kernel)|exact .inr (by decide +kernel)) (by rw[isSubtype_type];kernel_rfl)
theorem fE:Slot "set_iterator" "__iter__" "set_iterator.__iter__" :=
 .of (owner := "set_iterator") (n := "__iter__") (by rw[typeLookup_type,builtinLookup_eq_fast];kernel_rfl) (by decide +kernel) (by decide +kernel) (by decide +kernel)
  (by first|exact .inl (by decide +kernel)|exact .inr (by decide +kernel)) (by rw[isSubtype_type];kernel_rfl)
theorem i8:entryFor table "set_iterator.__next__" = some Builtin.«set_iterator.__next__»:=entryFor_of_tree (by kernel_rfl)
theorem i9:entryFor table "set_iterator.__iter__" = some Builtin.«dict_keyiterator.__iter__»:=entryFor_alias (id' := "dict_keyiterator.__iter__") (by kernel_rfl) rfl (by decide +kernel) (by kernel_rfl)
theorem iI:entryFor table "set.__iter__" = some Builtin.«frozenset.__iter__»:=entryFor_alias (id' := "frozenset.__iter__") (by kernel_rfl) rfl (by decide +kernel) (by kernel_rfl)
theorem l7:Manifest.owners.lookup (String.ofList ['r','o','t','a','r','e','t','i','_','t','e','s'].reverse)=some Manifest.sig_set_iterator:=by kernel_rfl
theorem k6 (a:Value):argsOk "set_iterator.__next__" ⟨[a],[]⟩:=by
 unfold argsOk;rw[signature?_of (id := "set_iterator.__next__") (n:=['_','_','t','x','e','n','_','_']) (o:=['r','o','t','a','r','e','t','i','_','t','e','s']) (by kernel_rfl) l7];kernel_rfl
theorem k9 (a:Value):argsOk "set_iterator.__iter__" ⟨[a],[]⟩:=by
 unfold argsOk;rw[signature?_of (id := "set_iterator.__iter__") (n:=['_','_','r','e','t','i','_','_']) (o:=['r','o','t','a','r','e','t','i','_','t','e','s']) (by kernel_rfl) l7];kernel_rfl
def eD (h:Heap) (it a:Addr) (first:Value) (i n ep:Nat):Prop:=∃o,h.get? it=some o/\o.cls=.type "set_iterator" /\ o.data=.fields #[first,.int i 0,.ref a,.int n 0,.int ep 0]
def df (h:Heap) (a:Addr) (es:Array (Int × Value)) (ep:Nat) (t:SetTable):Prop:=∃o,h.get? a=some o/\o.data=.set es ep t/\o.cls=.type "set" /\ t.fits es.size=true
section
variable {prog:Program} {w:World} {A:Around} {E:A0} {s:Shared} {a it:Addr} {es:Array (Int × Value)} {ep:Nat} {t:SetTable} {i:Nat} {first:Value}
variable {n:Nat}
theorem eD.typeIs (h:eD s.heap it a first i n ep):s.TypeIs (.ref it) "set_iterator" := let ⟨o,ho,hc,_⟩:=h;⟨o,ho,hc⟩
theorem eD.at {h h':Heap} (x:eD h it a first i n ep) (e:∀o,h.get? it=some o->h'.get? it=some o):eD h' it a first i n ep:=let ⟨o,ho,r⟩:=x;⟨o,e _ ho,r⟩
theorem df.at {h h':Heap} (x:df h a es ep t) (e:∀o,h.get? a=some o->h'.get? a=some o):df h' a es ep t:=let ⟨o,ho,r⟩:=x;⟨o,e _ ho,r⟩
theorem kQ {Q:A0} (hit:eD s.heap it a first i n ep) (h:Q (.ref it) s):wpAny (model prog w) A (pyIter (.ref it)) Q E s:=by
 refine wpAny_pyIter_slot hit.typeIs fE (Q9 fE hit.typeIs i9 ?_ (k9 _));show wpAny _ _ (ret (.ref it)) _ _ s;exact Qf ⟨_,rfl, "set_iterator", _,hit.typeIs,cu.lookup,h⟩
variable {Q:Option Value->Shared->Prop}
theorem gH (hit:eD s.heap it a first i n ep) (h:wpAny (model prog w) A.in1 (Builtin.«set_iterator.__next__» ⟨[.ref it],[]⟩) (λfin s'=>∃v,fin=Fin.done (Flow.ret v)/\wpAny (model prog w) A (pure (some v)) Q E s')
   (λe s'=>wpAny (model prog w) A (isInstance e (Value.type "StopIteration") >>= λb=>if b=true then pure none else throw e) Q E s') s):wpAny (model prog w) A (pyNext (.ref it)) Q E s :=
 Qa (wpAny_attempt (Xq (name:=Str.ofString "__next__") hit.typeIs cu (Q9 cu hit.typeIs i8 h (k6 _))))
theorem sm {h1:Heap} (hh:A.handled=none) (k:Heap.ExtBut it s.heap h1) (h:∀h',Heap.ExtBut it s.heap h'->Q none { s with heap:=h' }) :
  wpAny (model prog w) A.in1 (PySem.newExc (Value.type "StopIteration") [] >>= λe=>raiseNew (α:=Fin) e) (λfin s'=>∃v,fin=Fin.done (Flow.ret v)/\wpAny (model prog w) A (pure (some v)) Q E s')
   (λe s'=>wpAny (model prog w) A (isInstance e (Value.type "StopIteration") >>= λb=>if b=true then pure none else throw e) Q E s') { s with heap:=h1 }:=by
 refine Qa ?_;simp only[PySem.newExc,newTuple];refine Qa (XM ?_ (by size_fits));refine Qa (m:=firstArgMember _ _) (wpAny_of_eq (a:=Value.none) (by first|rfl|(simp only[firstArgMember];rfl)) ?_);refine XM ?_ (by size_fits);simp only[raiseNew];refine Qa (wpAny_handled ?_);rw[show A.in1.handled=none from hh];refine Qa (Qf (wpAny_throw ?_));refine Qa (wpAny_isInstance (T := "StopIteration") (b:=true) ⟨_,Qy _ rfl,rfl⟩ isSubtype_stop ?_);exact Qf (h _ ((k.push _).push _))
theorem jB {slot next:Nat} {x:Value} (hit:eD s.heap it a (.int slot 0) i es.size ep) (hs:df s.heap a es ep t)
  (hw:∀(Q:Option (Value × Nat)->Shared->Prop) (E:A0),Q (some (x,next)) s->wpAny (model prog w) A.in1 (setNext a slot i ep) Q E s)
  (h:∀h',eD h' it a (.int next 0) (i+1) es.size ep->Heap.SameBut it s.heap h'->Q (some x) { s with heap:=h' }):wpAny (model prog w) A (pyNext (.ref it)) Q E s:=by
 obtain⟨o,ho,hc,hd⟩:=id hit;obtain⟨os,hos,hds,_,hf⟩:=id hs;refine gH hit ?_;unfold Builtin.«set_iterator.__next__»;refine Qa (Qf (Qa (wpAny_fieldsOf ho hd ?_)));dsimp only;refine Qa (wpAny_setEntries_of hos hds hf ?_);rw[Qn (by simp)];refine Qa (hw _ _ ?_);dsimp only;refine Qa (wpAny_setField ho hd (by simp) ?_);have h1:=Xg (Obj.mapFields (·.setIfInBounds 0 (rawInt (next:Int)))) ho (Obj.isFreed_of_fields (XF hd _));have d1:=XF hd (·.setIfInBounds 0 (rawInt (next:Int)));refine Qa (wpAny_setField h1 d1 (by simp) ?_);refine Qf ⟨_,rfl,Qf (h _ ⟨_,Xg _ h1 (Obj.isFreed_of_fields (XF d1 _)),(Obj.cls_mapFields ..).trans ((Obj.cls_mapFields ..).trans hc),by rw[XF d1];simp[rawInt]⟩ ((Xh ..).trans (Xh ..)))⟩
theorem jC {slot:Nat} (hh:A.handled=none) (hit:eD s.heap it a (.int slot 0) i es.size ep) (hs:df s.heap a es ep t)
  (hw:∀(Q:Option (Value × Nat)->Shared->Prop) (E:A0),Q none s->wpAny (model prog w) A.in1 (setNext a slot i ep) Q E s)
  (h:∀h',Heap.ExtBut it s.heap h'->Q none { s with heap:=h' }):wpAny (model prog w) A (pyNext (.ref it)) Q E s:=by
 obtain⟨o,ho,hc,hd⟩:=id hit;obtain⟨os,hos,hds,_,hf⟩:=id hs;refine gH hit ?_;unfold Builtin.«set_iterator.__next__»;refine Qa (Qf (Qa (wpAny_fieldsOf ho hd ?_)));dsimp only;refine Qa (wpAny_setEntries_of hos hds hf ?_);rw[Qn (by simp)];refine Qa (hw _ _ ?_);dsimp only;refine Qa (wpAny_setField ho hd (by simp) ?_);exact sm hh (Xh ..).extBut h
theorem oD {tp:Addr} {pl:List Nat} {p:Nat} {e:Int × Value} (hit:eD s.heap it a (.ref tp) i es.size ep) (hs:df s.heap a es ep t) (ht:s.heap.get? tp=some { cls:=.type "tuple", data:=.seq (pl.map λ(i:Nat)=>rawInt i).toArray })
  (hp:pl[i]?=some p) (he:es[p]?=some e) (h:∀h',eD h' it a (.ref tp) (i+1) es.size ep->Heap.SameBut it s.heap h'->Q (some e.2) { s with heap:=h' }):wpAny (model prog w) A (pyNext (.ref it)) Q E s:=by
 obtain⟨o,ho,hc,hd⟩:=id hit;obtain⟨os,hos,hds,_,hf⟩:=id hs;refine gH hit ?_;unfold Builtin.«set_iterator.__next__»;refine Qa (Qf (Qa (wpAny_fieldsOf ho hd ?_)));dsimp only;refine Qa (wpAny_setEntries_of hos hds hf ?_);rw[Qn (by simp)];refine Qa (XH ht rfl ?_);dsimp only;rw[show (List.map (λ(i:Nat)=>rawInt (i:Int)) pl).toArray[(i:Int).toNat]?=some (rawInt (p:Int)) by rw[Q2,List.getElem?_toArray,Qq,hp];rfl];dsimp only[rawInt];unfold setNextDrawn;refine Qa (Qa (Xx hos hds hf ?_));dsimp only;rw[Qn (by simp),Q2,he];refine Qa (Qf (Qf ?_));refine Qa (wpAny_setField ho hd (by simp) ?_);exact Qf ⟨_,rfl,Qf (h _ ⟨_,Xg _ ho (Obj.isFreed_of_fields (XF hd _)),(Obj.cls_mapFields ..).trans hc,by rw[XF hd];simp⟩ (Xh ..))⟩
theorem oE {tp:Addr} {pl:List Nat} (hh:A.handled=none) (hit:eD s.heap it a (.ref tp) i es.size ep) (hs:df s.heap a es ep t) (ht:s.heap.get? tp=some { cls:=.type "tuple", data:=.seq (pl.map λ(i:Nat)=>rawInt i).toArray })
  (hp:pl[i]?=none) (h:∀h',Heap.ExtBut it s.heap h'->Q none { s with heap:=h' }):wpAny (model prog w) A (pyNext (.ref it)) Q E s:=by
 obtain⟨o,ho,hc,hd⟩:=id hit;obtain⟨os,hos,hds,_,hf⟩:=id hs;refine gH hit ?_;unfold Builtin.«set_iterator.__next__»;refine Qa (Qf (Qa (wpAny_fieldsOf ho hd ?_)));dsimp only;refine Qa (wpAny_setEntries_of hos hds hf ?_);rw[Qn (by simp)];refine Qa (XH ht rfl ?_);dsimp only;have en:(List.map (λ(i:Nat)=>rawInt (i:Int)) pl).toArray[(i:Int).toNat]?=none:=by rw[Q2,List.getElem?_toArray,Qq,hp,Option.map_none]
 rw[en];dsimp only;refine Qa (wpAny_setField ho hd (by simp) ?_);have h1:=Xg (Obj.mapFields (·.setIfInBounds 0 (rawInt 0))) ho (Obj.isFreed_of_fields (XF hd _));have d1:=XF hd (·.setIfInBounds 0 (rawInt 0));refine Qa (wpAny_setField h1 d1 (by simp) ?_);have k2:Heap.ExtBut it s.heap ((s.heap.update it (Obj.mapFields (·.setIfInBounds 0 (rawInt 0)))).update it (Obj.mapFields (·.setIfInBounds 2 .none))):=((Xh s.heap it _).trans (Xh _ it _)).extBut;exact sm (s:=s) (it:=it) (h1:=(s.heap.update it (Obj.mapFields (·.setIfInBounds 0 (rawInt 0)))).update it (Obj.mapFields (·.setIfInBounds 2 .none))) hh k2 h
end
end LS
set_option maxHeartbeats 1000000
namespace DR
open PySem PySem.Spec PyProof.Rows
abbrev At (h:Heap) (d:Addr) (es:Array DictEntry) (ep:Nat):Prop:=h.get? d=some { cls:=.type "dict", data:=.dict es ep }
abbrev IAt (h:Heap) (it d:Addr) (i n ep:Nat):Prop:=h.get? it=some { cls:=.type "dict_keyiterator", data:=.fields #[.ref d,.int i 0,.int n 0,.int ep 0] }
theorem yZ:(if Builtin.Dict_items.ownsTuple ((Manifest.find? "dict_keyiterator").elim "dict_keyiterator" λx=>x.tpName)=true then 2 else 0)=0:=by rw[find?_eq_fast];kernel_rfl
section
variable {prog:Program} {w:World} {A:Around} {E:A0} {s:Shared} {d it:Addr} {es:Array DictEntry} {ep i:Nat}
theorem iter {Q:A0} (hd:(d==sysModules)=false) (hm:At s.heap d es ep)
  (hQ:Q (.ref s.heap.objs.size) { s with heap:=s.heap.push { cls:=.type "dict_keyiterator", data:=.fields #[.ref d,.int 0 0,.int es.size 0,.int ep 0] } }):wpAny (model prog w) A (pyIter (.ref d)) Q E s:=by
 have hT:s.TypeIs (.ref d) "dict" := ⟨_,hm,rfl⟩;refine wpAny_pyIter_slot hT F.slot_dict_iter (Q9 F.slot_dict_iter hT F.entry_dict_iter ?_ (F.args_dict_iter_1 _));unfold Builtin.«dict.__iter__» Builtin.Dict.dictSlotNone Builtin.Dict.showsAll
 wp_walk
 exact⟨_,rfl, "dict_keyiterator", _,⟨_,Qy _ rfl,rfl⟩,X4.lookup,hQ⟩
variable {Q:Option Value->Shared->Prop}
theorem nxt (hit:IAt s.heap it d i es.size ep) (hm:At s.heap d es ep) (hi:i<es.size)
  (hQ:∀h',IAt h' it d (i+1) es.size ep->Heap.SameBut it s.heap h'->Q (some es[i].key) { s with heap:=h' }):wpAny (model prog w) A (pyNext (.ref it)) Q E s:=by
 have hT:s.TypeIs (.ref it) "dict_keyiterator" := ⟨_,hit,rfl⟩;refine Qa (wpAny_attempt (Xq (name:=Str.ofString "__next__") hT X4 (Q9 X4 hT F.entry_dict_keyiterator_next ?_ (F.args_dict_keyiterator_next_1 _))));unfold Builtin.«dict_keyiterator.__next__»
 wp_walk
 have e:(if (i:Int)<0 then none else es[(i:Int).toNat]?)=some es[i]:=by rw[Qn (by omega),Q2];simp[hi]
 rw[e];dsimp only;have m1:=mroOf_keyiter
 wp_walk
 rw[yZ,Qn (by decide +kernel)];exact⟨_,rfl,Qf (hQ _ ((Xg _ hit rfl).trans (by simp[Obj.mapFields,rawInt])) (Xh ..))⟩
theorem stp (hh:A.handled=none) (hit:IAt s.heap it d i es.size ep) (hm:At s.heap d es ep) (hi:es.size<=i)
  (hQ:∀h',Heap.ExtBut it s.heap h'->Q none { s with heap:=h' }):wpAny (model prog w) A (pyNext (.ref it)) Q E s:=by
 have hT:s.TypeIs (.ref it) "dict_keyiterator" := ⟨_,hit,rfl⟩;refine Qa (wpAny_attempt (Xq (name:=Str.ofString "__next__") hT X4 (Q9 X4 hT F.entry_dict_keyiterator_next ?_ (F.args_dict_keyiterator_next_1 _))));unfold Builtin.«dict_keyiterator.__next__»
 wp_walk
 have e:(if (i:Int)<0 then none else es[(i:Int).toNat]?)=none:=by rw[Qn (by omega),Q2];simp[hi]
 rw[e];dsimp only;have m1:=mroOf_keyiter;generalize hN:setField=SF
 wp_walk
 subst hN;refine wpAny_setField hit rfl (by rw[yZ];simp) ?_;exact LS.sm hh (Xh ..).extBut hQ
theorem self {Q:A0} {n:Nat} (hit:IAt s.heap it d i n ep) (h:Q (.ref it) s):wpAny (model prog w) A (pyIter (.ref it)) Q E s:=wpAny_pyIter_keyiter ⟨_,hit,rfl,rfl⟩ h
theorem wF (hh:A.handled=none) (I d:Addr) (hne:d≠I) (es:Array DictEntry) (ep:Nat):Walks prog w A I [I,d] [I] es.size (λi v=>∃e,es[i]?=some e/\v=e.key) (λi h=>IAt h I d i es.size ep/\At h d es ep) where
 sub:=λb hb=>by simp at hb;simp[hb]
 frame:=λ_ _ _ st hk=>⟨hk I (by simp) _ st.1,hk d (by simp) _ st.2⟩
 item:=λi s Q E hi st hQ=>nxt st.1 st.2 hi λh' hit' hs'=>hQ _ h' s.toks ⟨es[i],by simp[hi],rfl⟩ ⟨hit',hs'.extBut d _ hne st.2⟩ λb o hb e=>hs'.extBut b o (λh=>hb (by simp[h])) e
 done:=λs Q E st hQ=>stp hh st.1 st.2 (Qg _) λh' he'=>hQ h' s.toks λb o hb e=>he' b o (λh=>hb (by simp[h])) e
 self:=λ_ _ _ _ st hQ=>self st.1 hQ
theorem src (lo:(d==sysModules)=false):PySem.W.KdlSrc prog w "dict" d d es.size (λi v=>∃e,es[i]?=some e/\v=e.key) (λh=>At h d es ep) where
 type:=λ_ hm=>⟨_,hm,rfl⟩
 there:=λ_ h=>⟨Qt h,Qt h⟩
 keep:=λ_ _ hm hk=>hk d (.inl rfl) _ hm
 notList:=by decide
 notTuple:=by decide
 hint:=λ_ _ _ _ hm hq=>PySem.W.kdl_hint_dict ⟨_,hm,rfl⟩ hq
 iter:=λ_ _ hh hm=>⟨_,_,(λ_ _ hq=>iter lo hm hq),wF hh _ d (QF (Qt hm)) es ep,⟨Qy _ rfl,Qe _ hm⟩⟩
end
end DR
namespace L2
open PySem PySem.Spec PyProof.Rows
variable {H H':Hp}
theorem KIt.inj {x y:Key ⊕ List Key} {v:V} (h1:KIt H x v) (h2:KIt H y v):x=y:=by
 cases x with
 | inl k =>
  cases h1
  cases y with
  | inl j=>rw[uh (show kV k=kV j from h2)]
  | inr js=>obtain⟨c,e,_⟩:=h2;cases k <;> cases e
 | inr ks =>
 obtain⟨c,rfl,h1⟩:=h1
 cases y with
 | inl j=>have e:V.ref c=kV j:=h2;cases j <;> cases e
 | inr js =>
 obtain⟨c2,e,h2⟩:=h2;cases e;rw[h1]at h2;cases kO (HO.tup.inj (QC h2));rfl
variable {b a:Addr} {x y:av}
theorem bL.inj (h1:bL H x b) (h2:bL H y b):x=y:=by
 obtain⟨vs,e1,p1⟩:=h1;obtain⟨us,e2,p2⟩:=h2;rw[e1]at e2;cases HO.tup.inj (QC e2);clear e1 e2
 induction p1 generalizing y with
 | nil=>cases p2;rfl
 | cons q _ ih=>cases p2 with
  | cons q2 t2=>rw[q.inj q2,ih t2]
abbrev KsA (H:Hp) (bs:A3) (ks:List av):Prop:=Paired (λb k=>bL H k b) bs ks
theorem KsA.keeps {bs:A3} {ks:List av} (h:KsA H bs ks) (ht:∀b xs,H b=some (.tup xs)->H' b=some (.tup xs)):KsA H' bs ks:=Paired.mapT h λ_ _ z=>z.keeps ht
open Classical in
noncomputable def cY (H:Hp) (b:Addr):av:=if h:∃k,bL H k b then h.choose else []
theorem oZ {k:av} (h:bL H k b):cY H b=k:=by
 unfold cY;rw[dif_pos ⟨k,h⟩];exact(Exists.choose_spec (p:=λk=>bL H k b) ⟨k,h⟩).inj h
theorem KsA.tk {bs:A3} {ks:List av} (h:KsA H bs ks):ks=bs.map (cY H)/\∀b∈bs,bL H (cY H b) b:=by
 induction h with
 | nil=>exact⟨rfl,λb hb=>nomatch hb⟩
 | cons q _ ih =>
 rw[Qx,oZ q];refine⟨by rw[<-ih.1],λb hb=>?_⟩;rcases Qj.mp hb with rfl|hb
 ·rw[oZ q];exact q
 exact ih.2 b hb
theorem oo {H:Hp}:∀{bs:A3},(∀b∈bs,bL H (cY H b) b)->KsA H bs (bs.map (cY H))
 | [],_=>.nil
 | b::bs,h=>.cons (h b (by simp)) (oo λc hc=>h c (Qp _ hc))
theorem f6:∀(cs:A3),aQ (cs.map V.ref) (cs.map Value.ref)
 | []=>.nil
 | _::cs=>.cons rfl (f6 cs)
theorem eZ:∀{cs:A3} {us:List Value},aQ (cs.map V.ref) us->us=cs.map Value.ref
 | [],_,r=>by
  rw[List.map_nil]at r;cases r;rfl
 | c::cs,_,r=>by
  rw[Qx]at r
  cases r with
  | cons r1 r2=>rw[eZ r2,Qx];cases (show _=Value.ref c from r1);rfl
theorem jr {ys:List Value} {l:A3} (h:ys.Perm (l.map Value.ref)):∃l':A3,l'.Perm l/\ys=l'.map Value.ref:=by
 let f:Value->Addr:=λv=>match v with
  | .ref a=>a
  | _=>0
 have e:∀l:A3,(l.map Value.ref).map f=l:=λl=>by rw[Xw];exact List.map_id _
 refine⟨ys.map f,by have:=h.map f;rwa [e]at this,?_⟩;rw[Xw];refine(List.map_id _).symm.trans (XJ λv hv=>?_);obtain⟨a,_,rfl⟩:=Ql.mp (h.mem_iff.mp hv);rfl
section
variable {P:Program} {w:World} {H:Hp} {h:Heap} {a:Addr}
theorem kU {kvs:List (av × V)} (ok:HOk P w H h) (e:Rd H a (.dT kvs)):(a==sysModules)=false/\kvs.length<=sizeLine/\∃(es:Array DictEntry) (ep:Nat) (bs:A3),DR.At h a es ep/\es.toList.map (·.key)=bs.map Value.ref/\KsA H bs (kvs.map (·.1)):=by
 obtain⟨z,y,xs,r,o,es,ep,h1,h2,h3,h4,h5⟩:=(show bp P w H h a (.dT kvs) from sP ok e);refine⟨y,z,es,ep,xs.map (·.2.1),?_,by rw[h4,Xw,Xw];rfl,?_⟩
 ·obtain⟨c,d,dt,sl⟩:=o;obtain⟨e1,e2,e3⟩:=h2;dsimp only at e1 e2 e3 h3;subst e1 e2 e3 h3;exact h1
 clear h4 h5 z e
 induction r with
 | nil=>exact .nil
 | cons q _ ih=>exact .cons q.2.1 ih
end
def Am (K:PySem.W.Frag) (H:Hp) (l:Addr) (ks:List av):Prop:=(∃bs:A3,SqL K H l (bs.map V.ref)/\KsA H bs ks)\/∃kvs,Rd H l (.dT kvs)/\kvs.map (·.1)=ks
def rN (b:Bool) (ks:List av):Prop:=(∀x∈ks,∀y∈ks,x.map Tm.sh2=y.map Tm.sh2)/\∀x∈ks,if b=true then ∃k r,x=.inl (.inr k)::r else ∃k r,x=.inr k::r
abbrev leF (x y:av):Prop:=Tm.leK (Tm.flat x) (Tm.flat y)
def sS (K:PySem.W.Frag):List V->Hp->VK->Prop:=λxs H Q=>∃(l:Addr) (ks:List av) (b:Bool),xs=[.ref l]/\Am K H l ks/\rN b ks/\ks.length<64 /\
 ∀(p:Addr) (bs':A3) (ks':List av),H p=none->KsA H bs' ks'->ks'.Perm ks->ks'.Pairwise leF->Q (.ref p) (upd H p (.lst (bs'.map V.ref)))
section
variable {X:Cx}
theorem fz (hc:X.calm=true) (hu:X.A.units+8<cLine):dR X (.builtin "sorted") (sS X.K):=by
 intro pins s σ H xs us Q I r h;obtain⟨l,ks,b,rfl,src,sp,hz,q⟩:=h;obtain⟨u,rfl,ru⟩:=dh r;cases ru
 have main:∀bs:A3,KsA H bs ks->(∀(A:Around) (E:A0) (R:List Value->Shared->Prop),A.handled=none->(∀h' tk vs,(∀b o,s.heap.get? b=some o->h'.get? b=some o)->s.heap.objs.size<=h'.objs.size->vs=bs.map Value.ref->R vs { s with heap:=h',toks:=tk })->wpAny (model X.prog X.w) A (collect (.ref l)) R E s) ->
   wpAny (model X.prog X.w) X.A (call (.builtin "sorted") [.ref l]) (EP X pins σ Q) X.xe s:=λbs ka col=>by
  obtain⟨ek,tk⟩:=ka.tk;have bl:bs.length=ks.length:=by rw[ek,Qd]
  have mem:∀{c},c∈bs->cY H c∈ks:=λhc=>by rw[ek];exact Ql.mpr ⟨_,hc,rfl⟩
  refine Tm.qK (s:=s) (up:=λA=>A.units<cLine) (κ:=λ_=>Tm.mJ bs (cY H)) (kd:=tuples' b) (G:=λ_ vs=>vs=bs.map Value.ref) col (I.ok.hd hc) (show X.A.units+1+1<cLine by omega) (λh' vs D k g hD=>?_) (λD h' tk' vs h1 out m k1 g1 k2 hle hD at' p1 p2=>?_)
  ·subst g;refine⟨by rw[Qd,bl];exact hz,Tm.mX (o:=seqObj "list" (bs.map Value.ref).toArray 0) (by rw[hD];exact Qy _ rfl) (λz=>absurd (Value.type.inj z) (by decide)) (λc hc=>?_) ⟨λa ha c hc=>sp.1 _ (mem ha) _ (mem hc),λa ha=>sp.2 _ (mem ha)⟩⟩;exact Tm.cj (c8 I.hok (tk c hc)) λb o e _=>Qe _ (k _ _ e)
  subst g1;obtain⟨bs',pm,eo⟩:=jr p1;rw[eo,Xo]at p2;have tk':∀b∈bs',bL H (cY H b) b:=λb hb=>tk b (pm.mem_iff.mp hb)
  have so:(bs'.map (cY H)).Pairwise leF:=by
   rw[Xo];refine p2.imp_of_mem λ{a c} ha hc hq=>?_;have hq:Tm.lb (((Tm.mJ bs (cY H)).keyOf (.ref c)).getD []) (((Tm.mJ bs (cY H)).keyOf (.ref a)).getD [])=false:=hq;rw[Tm.fP _ (pm.mem_iff.mp ha),Tm.fP _ (pm.mem_iff.mp hc)]at hq;exact hq
  refine⟨.ref D,_,I.laid (o:=.lst (bs'.map V.ref)) (t':=_) (λb o g=>k2 b o (k1 b o g)) hle ⟨by rw[Qd,pm.length_eq,bl,XQ];omega,out.toList,m,by rw[eo];exact f6 _,by rw[Array.toArray_toList];exact at'⟩,rfl,q _ bs' _ (I.hok.fresh hle) (oo tk') (by rw[ek];exact pm.map _) so⟩
 rcases src with⟨bs,hl,ka⟩|⟨kvs,rd,ek⟩
 ·obtain⟨its,rv,pl,_⟩:=I.list hl;refine main bs ka λA E R _ hR=>collect_list pl.isList (hR _ _ its (λb o e=>?_) (by rw[Heap.size_update,size_push'];exact Nat.le_succ _) (eZ rv)) (by rw[<-rv.length,Qd,Xk ka,XQ];omega);exact(Xj _ _ (Nat.ne_of_gt (Qt e))).trans (Qe _ e)
 obtain⟨y,z,es,ep,bs,da,ee,ka⟩:=kU I.hok rd;rw[ek]at ka
 have ez:es.size=ks.length:=by
  have:=congrArg List.length ee;rw[Qd,Qd,Qm]at this;rw[this,Xk ka]
 refine main bs ka λA E R hA hR=>Tm.uL (DR.src (es:=es) (ep:=ep) y) hA da (by rw[ez,XQ];omega) λh' tk acc k z it=>hR h' tk acc.toList k z ?_;rw[<-ee];refine XW λj=>?_;rw[Qq];by_cases hj:j<es.size
 ·have ha:j<acc.size:=by rw[it.1];exact hj
  obtain⟨e,e1,e2⟩:=it.2 j acc[j] (QL ha);rw[Q7,Q7,QL ha,e1,e2];rfl
 rw[QU (by rw[Qm,it.1];omega),QU (by rw[Qm];omega)];rfl
end
def vOf:Value->V
 | .none=>.non
 | .bool b=>.bl b
 | .int i _=>.int i
 | .str x _=>.str x
 | .bytes b _=>.byt b
 | .float b _=>.flt b
 | .ref a=>.ref a
 | .type n=>.ty n
 | _=>.non
theorem nu {x:V} {u:Value} (r:aN x u):vOf u=x:=by
 cases x with
 | int i=>obtain⟨t,rfl⟩:=r;rfl
 | str z=>obtain⟨t,rfl⟩:=r;rfl
 | byt b=>obtain⟨t,rfl⟩:=r;rfl
 | flt b=>obtain⟨t,rfl⟩:=r;rfl
 | _=>cases r;rfl
theorem lA:∀{xs:List V} {us:List Value},aQ xs us->us.map vOf=xs
 | _,_,.nil=>rfl
 | _,_,.cons r t=>by rw[Qx,nu r,lA t]
theorem qw {xs:List V} {us:List Value} (r:aQ xs us) (e:V->Bool):us.any (λu=>e (vOf u))=xs.any e:=by rw[<-lA r,List.any_map];rfl
section
variable {X:Cx}
theorem EqD.mems {pins:A1} {σ:St} {H:Hp} {s:Shared} (I:Inv X pins σ H s) {A:Around} (hu:A.units+8<cLine) {x:V} {v:Value} (rx:aN x v) {e:V->Bool}:∀{xs:List V} {us:List Value},aQ xs us->(∀y∈xs,EqD X.K H 8 y x (e y))->∀u∈us,SeqAt.EqAt A s u v (e (vOf u))
 | _,_,.nil,_=>λu hu=>by cases hu
 | y::xs,u::us,.cons r t,f=>λu' hu'=>by
  rcases Qj.mp hu' with rfl|hu'
  ·rw[nu r];exact EqD.at I (f y (by simp)) hu r rx
  exact EqD.mems I hu rx t (λy hy=>f y (Qp _ hy)) u' hu'
def xG (K:PySem.W.Frag) (neg:Bool):R2:=λx y H Q=>∃(p:Addr) (ys:List V) (e:V->Bool),y=.ref p/\(SqL K H p ys\/SqT K H p ys)/\(∀v∈ys,EqD K H 8 v x (e v))/\Q (.bl (if neg then !(ys.any e) else ys.any e)) H
theorem xT (hu:X.A.units+64<cLine):OpR X (compareOp .In) (xG X.K false):=by
 intro pins s σ H x y v u Q I rx ry h;obtain⟨p,xs,e,rfl,hq,f,q⟩:=h;cases ry;have hu':X.A.in1.units+8<cLine:=show X.A.units+1+8<cLine by omega
 rcases hq with hq|hq
 ·obtain⟨its,r,pl,hz⟩:=I.list hq;refine SeqAt.in_listAt (λu=>e (vOf u)) pl.isList (λw hw=>EqD.mems I hu' rx r f w (by simpa using hw)) ⟨.bl _,H,I,rfl,?_⟩;rw[show its.toArray.any (λu=>e (vOf u))=its.any (λu=>e (vOf u)) by simp,qw r];exact q
 obtain⟨its,r,pl,hz⟩:=I.tuple hq;refine SeqAt.in_tupleAt (λu=>e (vOf u)) pl (λw hw=>EqD.mems I hu' rx r f w (by simpa using hw)) ⟨.bl _,H,I,rfl,?_⟩;rw[show its.toArray.any (λu=>e (vOf u))=its.any (λu=>e (vOf u)) by simp,qw r];exact q
def pG (K:PySem.W.Frag):V->List V->Hp->VK->Prop:=λx vs H Q=>∃(l:Addr) (ys:List V) (y:V) (e:V->Bool) (j:Nat) (z:V),x=.ref l/\vs=[y]/\SqL K H l ys/\(∀v∈ys,EqD K H 8 v y (e v))/\ys[j]?=some z/\e z=true/\(∀m v,m<j->ys[m]?=some v->e v=false)/\Q (.int j) H
theorem cg (hu:X.A.units+64<cLine):MtR X "list.index" (pG X.K):=by
 intro pins s σ H x vs v us Q I rx rv h;obtain⟨l,ys,y,e,j,z,rfl,rfl,hl,f,hj,ez,no,q⟩:=h;cases rx;obtain⟨u,rfl,ru⟩:=dh rv;obtain⟨its,r,pl,hz⟩:=I.list hl;obtain⟨o,ho,hc,n,hd⟩:=pl.isList;obtain⟨ocls,odict,odata,oslots⟩:=o;dsimp only at hc hd;subst hc hd;have hu':X.A.in1.units+8<cLine:=show X.A.units+1+8<cLine by omega
 obtain⟨w1,hw1,rw1⟩:=r.get hj;have hjl:=(Qc.mp hw1).1
 have at_:∀m (hm:m<its.toArray.size),∃v,ys[m]?=some v/\vOf its.toArray[m]=v:=λm hm=>by
  have hm:m<its.length:=by simpa using hm
  have hm2:m<ys.length:=by rw[r.length];exact hm
  obtain⟨w,hw,rw'⟩:=r.get (Qb hm2);rw[Qb hm]at hw;cases hw;exact⟨_,Qb hm2,nu rw'⟩
 refine call_meets F.slot_list_index ⟨_,ho,rfl⟩ F.entry_list_index (F.args_list_index_2 _ _) (SeqAt.list_indexAt l its.toArray n odict oslots u (λu=>e (vOf u)) j (by simpa using hjl) ?_ ?_ (λm hm hmj=>?_)) ⟨ho,?_,?_⟩
 ·rw[XQ]at hz;have:=(Qc.mp hj).1;omega
 ·obtain⟨v,hv,ev⟩:=at_ j (by simpa using hjl);rw[hj]at hv;cases hv;rw[ev];exact ez
 ·obtain⟨v,hv,ev⟩:=at_ m hm;rw[ev];exact no m v hmj hv
 ·exact λw hw=>EqD.mems I hu' ru r f w (by simpa using hw)
 exact⟨.int j,H,I.tok _,⟨_,rfl⟩,q⟩
end
theorem qj (a b:Key) (h:Tm.sh1 a=Tm.sh1 b):eqV (kV a) (kV b)=decide (a=b):=by
 cases a with
 | inl i=>cases b with
  | inl j=>rw[ue];rfl
  | inr y=>cases h
 | inr x=>cases b with
  | inl j=>cases h
  | inr y =>
   rw[ud];show (x==y)=_;by_cases e:x=y
   ·subst e;simp
   rw[Qw e];exact beq_eq_false_iff_ne.mpr e
theorem gJ (k:Key):cr (kV k)=true:=by cases k <;> rfl
theorem qi {K:PySem.W.Frag} {n:Nat} {x y:List Key} (ha:H a=some (.tup (x.map kV))) (hb:H b=some (.tup (y.map kV))) (e:x.map Tm.sh1=y.map Tm.sh1):EqD K H (n+1) (.ref a) (.ref b) (decide (x=y)):=by
 have len:x.length=y.length:=by have:=congrArg List.length e;simpa using this
 by_cases c:a=b
 ·subst c;rw[ha]at hb;cases kO (HO.tup.inj (QC hb));rw[Qu rfl];exact .same
 have q:=EqD.tups (K:=K) (n:=n) (e:=λj=>decide (x[j]?=y[j]?)) (SqT.of ha) (SqT.of hb) (λj u v e1 e2=>?_) c
 ·have:((List.range (min (x.map kV).length (y.map kV).length)).all (λj=>decide (x[j]?=y[j]?))&&(x.map kV).length==(y.map kV).length)=decide (x=y):=by
   rw[Qd,Qd,len,Nat.min_self,beq_self_eq_true,Bool.and_true,X1,QX,X6]
   constructor
   ·intro h;refine XW λj=>?_;by_cases hj:j<y.length
    ·exact Xv (h j (QR.mpr hj))
    rw[QU (by omega),QU (by omega)]
   rintro rfl j _;simp
  rw[this]at q;exact q
 rw[Qq]at e1 e2;obtain⟨k1,h1,rfl⟩:=Xu.mp e1;obtain⟨k2,h2,rfl⟩:=Xu.mp e2;have s:=congrArg (·[j]?) e;simp only[Qq,h1,h2]at s;have s:Tm.sh1 k1=Tm.sh1 k2:=QC s;rw[h1,h2,show decide (some k1=some k2)=decide (k1=k2) by simp,<-qj _ _ s];exact .flat (gJ _) (gJ _)
theorem iC {H:Hp}:∀{k:av} {vs:List V} {j:Nat} {v:V},Paired (KIt H) k vs->vs[j]?=some v->∃x,k[j]?=some x/\KIt H x v
 | _,_,_,_,.nil,e=>by simp at e
 | _,_,0,_,.cons r _,e=>by simp at e;subst e;exact⟨_,rfl,r⟩
 | _,_,j+1,_,.cons _ t,e=>by obtain⟨x,h1,h2⟩:=iC (j:=j) t (by simpa using e);exact⟨x,by simpa using h1,h2⟩
variable {n ep:Nat}
theorem yn {K:PySem.W.Frag} {k1 k2:Key ⊕ List Key} {u v:V} (r1:KIt H k1 u) (r2:KIt H k2 v) (s:Tm.sh2 k1=Tm.sh2 k2):EqD K H (n+1) u v (decide (k1=k2)):=by
 cases k1 with
 | inl k1=>cases k2 with
  | inr _=>cases s
  | inl k2 =>
   cases r1;cases r2;have s:Tm.sh1 k1=Tm.sh1 k2:=Sum.inl.inj s;rw[show decide ((Sum.inl k1:Key ⊕ List Key)=Sum.inl k2)=decide (k1=k2) by simp,<-qj _ _ s];exact .flat (gJ _) (gJ _)
 | inr k1=>cases k2 with
  | inl _=>cases s
  | inr k2 =>
   obtain⟨c1,rfl,r1⟩:=r1;obtain⟨c2,rfl,r2⟩:=r2;have s:k1.map Tm.sh1=k2.map Tm.sh1:=Sum.inr.inj s;rw[show decide ((Sum.inr k1:Key ⊕ List Key)=Sum.inr k2)=decide (k1=k2) by simp];exact qi r1 r2 s
theorem uT (len:x.length=y.length):((List.range y.length).all λj=>decide (x[j]?=y[j]?))=decide (x=y):=by
 rw[X1,QX,X6]
 constructor
 ·intro h;refine XW λj=>?_;by_cases hj:j<y.length
  ·exact Xv (h j (QR.mpr hj))
  rw[QU (by omega),QU (by omega)]
 rintro rfl j _;simp
theorem ul {K:PySem.W.Frag} {vs us:List V} (p1:Paired (KIt H) x vs) (p2:Paired (KIt H) y us) (e:x.map Tm.sh2=y.map Tm.sh2) (j:Nat) (u v:V) (e1:vs[j]?=some u) (e2:us[j]?=some v):EqD K H (n+1) u v (decide (x[j]?=y[j]?)):=by
 obtain⟨k1,g1,r1⟩:=iC p1 e1;obtain⟨k2,g2,r2⟩:=iC p2 e2;have s:=congrArg (·[j]?) e;simp only[Qq,g1,g2]at s;rw[g1,g2,show decide (some k1=some k2)=decide (k1=k2) by simp];exact yn r1 r2 (QC s)
theorem ym {K:PySem.W.Frag} (ha:bL H x a) (hb:bL H y b) (e:x.map Tm.sh2=y.map Tm.sh2):EqD K H (n+2) (.ref a) (.ref b) (decide (x=y)):=by
 have len:x.length=y.length:=by have:=congrArg List.length e;simpa using this
 by_cases c:a=b
 ·subst c;rw[ha.inj hb,Qu rfl];exact .same
 obtain⟨vs,h1,p1⟩:=ha;obtain⟨us,h2,p2⟩:=hb;have l1:=Xk p1;have l2:=Xk p2;have q:=EqD.tups (K:=K) (n:=n+1) (e:=λj=>decide (x[j]?=y[j]?)) (SqT.of h1) (SqT.of h2) (ul p1 p2 e) c;rwa [<-l1,<-l2,len,Nat.min_self,beq_self_eq_true,Bool.and_true,uT len]at q
theorem zK {K:PySem.W.Frag} {neg:Bool} {Q:VK} (ha:bL H x a) (hb:bL H y b) (e:x.map Tm.sh2=y.map Tm.sh2) (q:Q (.bl (if neg=true then !decide (x=y) else decide (x=y))) H):sX K neg (.ref a) (.ref b) H Q:=by
 have len:x.length=y.length:=by have:=congrArg List.length e;simpa using this
 obtain⟨vs,h1,p1⟩:=ha;obtain⟨us,h2,p2⟩:=hb;have l1:=Xk p1;have l2:=Xk p2;refine⟨a,b,vs,us,λj=>decide (x[j]?=y[j]?),rfl,rfl,SqT.of h1,SqT.of h2,ul p1 p2 e,?_⟩;rw[<-l1,<-l2,len,Nat.min_self,beq_self_eq_true,Bool.and_true,uT len];exact q
def uY (a:Addr) (o:Obj) (kvs:List (av × V)):It :=
 ⟨λi H=>H a=some (.frz o (.dT kvs))/\i<kvs.length,λi H x H'=>H'=H/\∃k v b,kvs[i]?=some (k,v)/\x=.ref b/\bL H k b,λi H=>H a=some (.frz o (.dT kvs))/\kvs.length<=i⟩
theorem kT {X:Cx} {pins:A1} {σ:St} {s:Shared} {o:Obj} {es:Array DictEntry} {kvs:List (av × V)} (I:Inv X pins σ H s) (h:H a=some (.frz o (.dT kvs))) (hd:o={ cls:=.type "dict", data:=.dict es ep }) :
  (a==sysModules)=false/\DR.At s.heap a es ep/\es.size=kvs.length/\∃bs:A3,es.toList.map (·.key)=bs.map Value.ref/\KsA H bs (kvs.map (·.1)):=by
 obtain⟨y,z,es',ep',bs,e1,e2,e3⟩:=kU I.hok (.inr ⟨o,h⟩);obtain⟨e4,_⟩:=I.hok a _ h;rw[e1,hd]at e4;cases e4;have:=congrArg List.length e2;rw[Qd,Qd,Qm,Xk e3,Qd]at this;exact⟨y,e1,this,bs,e2,e3⟩
theorem pY {H:Hp}:∀{bs:A3} {ks:List av} {i:Nat} {k:av},KsA H bs ks->ks[i]?=some k->∃b,bs[i]?=some b/\bL H k b
 | _,_,_,_,.nil,e=>by simp at e
 | _,_,0,_,.cons r _,e=>by simp at e;subst e;exact⟨_,rfl,r⟩
 | _,_,i+1,_,.cons _ t,e=>by obtain⟨b,h1,h2⟩:=pY (i:=i) t (by simpa using e);exact⟨b,by simpa using h1,h2⟩
theorem nA {P:Program} {w:World} {K:PySem.W.Frag} {tg:Expr} (a it:Addr) (o:Obj) (kvs:List (av × V)) (es:Array DictEntry) (ep:Nat) (hd:o={ cls:=.type "dict", data:=.dict es ep }):Turn P w K tg (uY a o kvs) [it] it (λi h=>DR.IAt h it a i kvs.length ep) where
 mem:=by simp
 obj:=λi h st b hb=>by
  have e:b=it:=by simpa using hb
  subst e;exact⟨_,st,λv z=>nomatch z⟩
 keep:=λi h h' st k=>k it (by simp) _ st
 item:=by
  intro X hP hw hK hc i pins s σ H E I hf st hg;subst hP hw hK;obtain⟨hz,hi⟩:=hg;obtain⟨_,da,ez,bs,e2,e3⟩:=kT I hz hd;obtain⟨⟨k,v⟩,hx⟩:∃p,kvs[i]?=some p:=⟨kvs[i],by simp[hi]⟩;obtain⟨b,hb,tb⟩:=pY (i:=i) (k:=k) e3 (by rw[Qq,hx];rfl);have hi':i<es.size:=by omega
  have hk:es[i].key=.ref b:=by
   have e:=congrArg (·[i]?) e2;simp only[Qq,hb,Q7,QL hi']at e;exact QC e
  obtain⟨f0,f1,f2,f3,f4,f5⟩:=hf it (by simp);have st0:=st;rw[<-ez]at st0;refine DR.nxt st0 da hi' λh' st' sb=>?_;have I1:Inv X pins σ H { s with heap:=h' }:=I.turned (t':=s.toks) (λb o hb e=>(sb.2 b hb).trans e) f0 f1 f3 f4 f5;rw[ez]at st';rw[hk];exact⟨.ref b,rfl,p9 (s:={ s with heap:=h' }) st' rfl rfl (by decide) ⟨.ref b,H,I1,rfl,⟨rfl,k,v,b,hx,rfl,tb⟩,st',λb hb=>(hf b hb).1⟩⟩
 done:=by
  intro X hP hw hK hc i pins s σ H E I hf st hg;subst hP hw hK;obtain⟨hz,hi⟩:=hg;obtain⟨_,da,ez,bs,e2,e3⟩:=kT I hz hd;obtain⟨f0,f1,f2,f3,f4,f5⟩:=hf it (by simp);rw[<-ez]at st;exact DR.stp (I.ok.hd hc) st da (by omega) λh' eb=>⟨rfl,I.turned (t':=s.toks) (λb o hb e=>eb b o hb e) f0 f1 f3 f4 f5⟩
 self:=λ_ _ _ _ _ st h=>DR.self st h
def yj (tl:TE):TI:=λσ H R=>tl σ H λx H1=>∃a o kvs,x=.ref a/\H1 a=some (.frz o (.dT kvs))/\R (uY a o kvs) H1
theorem tj {X:Cx} {tg l:Expr} {tl:TE} (hl:PE X l tl):PI X tg l (yj tl):=by
 intro pins s σ H R I h;refine thn (hl pins s σ H _ I h) λv s1 ⟨x,H1,I1,r1,q1⟩=>?_;obtain⟨a,o,kvs,e,hz,q⟩:=q1;subst e;cases r1;obtain⟨y,z,es,ep,bs,e1,e2,e3⟩:=kU I1.hok (.inr ⟨o,hz⟩);obtain⟨e4,_⟩:=I1.hok a _ hz;have eo:o={ cls:=.type "dict", data:=.dict es ep }:=QC (e4.symm.trans e1);obtain⟨_,_,ez,_⟩:=kT I1 hz eo;refine DR.iter y e1 ?_;refine⟨s1.heap.objs.size,[s1.heap.objs.size],_,_,H1,rfl,I1.kept (t':=s1.toks) λb o e=>Qe _ e,nA a _ o kvs es ep eo,by rw[ez];exact Qy _ rfl,λb hb=>?_,q⟩;have e:b=s1.heap.objs.size:=by simpa using hb
 subst e;exact I1.fpOk (Qg _) (I1.hok.fresh (Qg _))
section
variable {X:Cx}
theorem rJ:dR X (.builtin "len") (λxs H Q=>∃a kvs,xs=[V.ref a]/\H a=some (.dT kvs)/\Q (.int kvs.length) H):=by
 intro pins s σ H xs us Q I r h;obtain⟨a,kvs,rfl,ha,q⟩:=h;obtain⟨u,rfl,ru⟩:=dh r;cases ru;obtain⟨y,z,es,ep,bs,da,e2,e3⟩:=kU I.hok (.inl ha);have ez:=congrArg List.length e2;rw[Qd,Qd,Qm,Xk e3,Qd]at ez;have hT:s.TypeIs (.ref a) "dict" := ⟨_,da,rfl⟩;refine Calls.call_function_entry kind_len plain_len entry_len (args_len1 _) ?_;have fit:(es.size:Int)<2 ^ 63:=by rw[ez];rw[XQ]at z;omega
 refine Qa (m:=oneArg _ _) (Qf (Qa (Xq (name:=Str.ofString "__len__") hT F.slot_dict_len (Q9 F.slot_dict_len hT F.entry_dict_len ?_ (F.args_dict_len_1 _)))));unfold Builtin.«dict.__len__»
 wp_walk
 refine⟨_,rfl,?_⟩;have n0:¬((es.size:Int)+((0:Nat):Int)<0):=by omega
 have n1:¬((es.size:Int)+((0:Nat):Int)>=2 ^ 63):=by omega
 wp_walk
 rw[Qn n1]
 wp_walk
 exact⟨_,rfl,.int kvs.length,H,I.tok _,⟨s.toks+1,by rw[ez];simp⟩,q⟩
def xv (tk tv:TE):TE:=λσ H Q=>∀p,H p=none->tk σ (upd H p (.dT [])) λx H1=>tv σ H1 λy H2=>H2 p=some (.dT [])/\∃b k,x=.ref b/\bL H2 k b/\Q (.ref p) (upd H2 p (.dT [(k,y)]))
theorem tG {k v:Expr} {pos:Pos} {tk tv:TE} (hu:X.A.units+8<cLine) (hk:PE X k tk) (hv:PE X v tv):PE X (.Dict [some k] [v] pos) (xv tk tv):=by
 intro pins s σ H Q I q;have hn:=I.hok.fresh (Qg s.heap.objs.size);have I1:=I.laid (a:=s.heap.objs.size) (o:=.dT []) (h':=s.heap.push { cls:=.type "dict", data:=.dict #[] }) (t':=s.toks) (λ_ _ q=>Qe _ q) (Qg _) (mR s.heap I.big);rw[arm_eval_Dict,zip_pairTrees [some k] [v] X.env pos rfl rfl,dictDisplay_pairs (pairTrees [some k] [v] X.env pos) (by simp[pairTrees]) (by simp[pairTrees])];refine Qa (wpAny_standAt ?_);unfold subDict;refine Qa (Qa (wpAny_alloc (Qa (Xf ?_))));rw[Qs (by simp[pairTrees])];refine Qa (pairTrees_cons_walk (thn (hk pins _ σ _ _ I1 (q _ hn)) λu s1 ⟨x,H1,I2,rx,q1⟩=>thn (hv pins s1 σ H1 _ I2 q1) λw2 s2 ⟨y,H2,I3,ry,e,b,kk,ex,tb,q2⟩=>pairTrees_nil_walk ?_));subst ex;obtain rfl:u=.ref b:=rx;obtain⟨z,hd,xs,rel,dd⟩:=xf I3.hok e;cases rel;refine Xf ?_;rw[List.forIn_cons];dsimp only;refine Qa (Qa (Qa (wpAny_dictSet_heap (knd:=bh X.prog X.w) (show X.A.units+1<cLine by omega) (c8 I3.hok tb) dd λh' dd' hs=>Qf ?_)));dsimp only;rw[List.forIn_nil];refine Qf (Qf (Qf (Qf ⟨.ref s.heap.objs.size,_,?_,rfl,q2⟩)));obtain⟨q,es,ep,hq,h2,h3,h4,_,h5⟩:=dd';refine fU I3 (by rw[e];exact True.intro) hs ⟨q,hq⟩ ⟨QQ (by simp) (show 1<=sizeLine by decide),hd,[(kk,b,w2)],.cons ⟨rfl,tb.keeps λc ys ec=>?_,ry⟩ .nil,q,es,ep,hq,h2,h3,h4,h5⟩;rw[ah (wY ec e (λz=>nomatch z))];exact ec
end
end L2
namespace Ht
open PySem PySem.SetTable
def itn {α:Type} (f:α->α):Nat->α->α
 | 0,x=>x
 | n+1,x=>itn f n (f x)
theorem de {α:Type} (f:α->α):∀(m n:Nat) (x:α),itn f (m+n) x=itn f n (itn f m x)
 | 0,n,x=>by rw[Nat.zero_add];rfl
 | m+1,n,x=>by rw[Nat.succ_add];exact de f m n (f x)
def Msk (m:Nat):Prop:=m=7\/m=31\/m=127
def lp (m i:Nat):Nat:=(i*5+1+0) % (m+1)
variable {m s e j i:Nat}
theorem Aj (hm:Msk m):(∀e,e<m+1->∃d,d<m+1/\itn (lp m) d 0=e)/\itn (lp m) (m+1) 0=0:=by
 rcases hm with rfl|rfl|rfl <;> exact⟨by decide +kernel,by decide +kernel⟩
theorem cyc (hm:Msk m) (hs:s<m+1) (he:e<m+1):∃d,d<m+1/\itn (lp m) d s=e:=by
 obtain⟨all,z⟩:=Aj hm;obtain⟨a,ha,rfl⟩:=all s hs;obtain⟨b,hb,rfl⟩:=all e he;by_cases c:a<=b
 ·exact⟨b-a,by omega,by rw[<-de];congr 1;omega⟩
 refine⟨b+(m+1)-a,by omega,?_⟩;rw[<-de,show a+(b+(m+1)-a)=(m+1)+b by omega,de,z]
def lps (m:Nat) (x:Nat × Nat):Nat × Nat:=leap m x.1 x.2
theorem pV (m:Nat):∀n x,(itn (lps m) n x).2=x.2 / 32 ^ n
 | 0,x=>by simp[itn]
 | n+1,x=>by
  show (itn (lps m) n (lps m x)).2=_;rw[pV m n];show x.2 / 32 / 32 ^ n=_;rw[Nat.div_div_eq_div_mul,Nat.pow_succ,Nat.mul_comm]
theorem mB (m:Nat):∀n i,itn (lps m) n (i,0)=(itn (lp m) n i,0)
 | 0,i=>rfl
 | n+1,i=>by
  show itn (lps m) n (lps m (i,0))=_;rw[show lps m (i,0)=(lp m i,0) by simp[lps,leap,lp]];exact mB m n (lp m i)
theorem t8 {m:Nat}:∀n x,x.1<m+1->(itn (lps m) n x).1<m+1
 | 0,x,h=>h
 | n+1,x,h=>t8 n (lps m x) (Nat.mod_lt _ (Nat.succ_pos _))
theorem xg {x:Nat × Nat} (hm:Msk m) (h1:x.1<m+1) (h2:x.2<2 ^ 64) (he:e<m+1):∃n,n<m+14/\(itn (lps m) n x).1=e:=by
 have z:(itn (lps m) 13 x).2=0:=by rw[pV];exact Nat.div_eq_of_lt (Nat.lt_trans h2 (by decide))
 have l:=t8 (m:=m) 13 x h1;obtain⟨d,hd,ed⟩:=cyc hm l he;refine⟨13+d,by omega,?_⟩;rw[de,show itn (lps m) 13 x=((itn (lps m) 13 x).1,0) from by rw[<-z],mB];exact ed
def adv (m:Nat) (p:Probe):Probe:=if p.more>0 then { p with j:=p.j+1,more:=p.more-1 } else let (i,perturb):=leap m p.i p.perturb;{ p with j:=i,more:=runEnd m i-i,i,perturb }
def beg (m:Nat) (x:Nat × Nat):Probe:={ j:=x.1,more:=runEnd m x.1-x.1,i:=x.1,perturb:=x.2,dummy:=none }
theorem sn (t:SetTable) (h:Int):t.probeStart h=beg t.mask (bits h % (t.mask+1),bits h):=rfl
theorem xB (m i:Nat):runEnd m i-i<=9:=by unfold runEnd;split <;> omega
theorem lc (m:Nat):∀(k:Nat) (p:Probe),p.more=k->p.dummy=none->itn (adv m) (k+1) p=beg m (lps m (p.i,p.perturb))
 | 0,p,h,hd=>by
  show adv m p=_;unfold adv;rw[Qn (by omega)];obtain⟨j,more,i,pe,d⟩:=p;dsimp only at hd;subst hd;rfl
 | k+1,p,h,hd=>by
  have e:adv m p={ p with j:=p.j+1,more:=p.more-1 }:=Qs (by omega);show itn (adv m) (k+1) (adv m p)=_;rw[e];exact lc m k { p with j:=p.j+1,more:=p.more-1 } (by show p.more-1=k;omega) hd
theorem jW (m:Nat):∀(n:Nat) (x:Nat × Nat),∃c,c<=10*n/\itn (adv m) c (beg m x)=beg m (itn (lps m) n x)
 | 0,x=>⟨0,Qg _,rfl⟩
 | n+1,x=>by
  obtain⟨c,hc,e⟩:=jW m n (lps m x);have r:=xB m x.1;refine⟨(beg m x).more+1+c,by show runEnd m x.1-x.1+1+c<=_;omega,?_⟩;rw[de,lc m _ (beg m x) rfl rfl];exact e
def Emp (m:Nat) (L:Nat->Prop):Nat->Probe->Prop
 | 0,p=>¬L p.j
 | n+1,p=>L p.j/\Emp m L n (adv m p)
theorem uG {m:Nat} {L:Nat->Prop}:∀(n:Nat) (p:Probe),¬L (itn (adv m) n p).j->∃k,k<=n/\Emp m L k p
 | 0,p,h=>⟨0,Qg _,h⟩
 | n+1,p,h=>by
  by_cases c:L p.j
  ·obtain⟨k,hk,e⟩:=uG n (adv m p) h;exact⟨k+1,by omega,c,e⟩
  exact⟨0,QT _,c⟩
theorem rC {L:Nat->Prop} (hm:Msk m) (h:Int) (he:e<m+1) (ne:¬L e):∃n,n<10*turns m/\Emp m L n (beg m (bits h % (m+1),bits h)):=by
 have hb:bits h<2 ^ 64:=by
  unfold bits;have h1:0<=h % (2 ^ 64:Int):=Int.emod_nonneg _ (by decide);have h2:h % (2 ^ 64:Int)<2 ^ 64:=Int.emod_lt_of_pos _ (by decide);omega
 obtain⟨n,hn,ee⟩:=xg (x:=(bits h % (m+1),bits h)) hm (Nat.mod_lt _ (Nat.succ_pos _)) hb he;obtain⟨c,hc,ec⟩:=jW m n (bits h % (m+1),bits h);obtain⟨k,hk,em⟩:=uG (m:=m) (L:=L) c (beg m (bits h % (m+1),bits h)) (by rw[ec];show ¬L (itn (lps m) n _).1;rw[ee];exact ne);exact⟨k,by unfold turns;omega,em⟩
inductive Rch (m:Nat) (L:Nat->Prop):Probe->Nat->Prop
 | here (p:Probe):Rch m L p p.j
 | step {p:Probe} {j:Nat}:L p.j->Rch m L (adv m p) j->Rch m L p j
theorem Rch.mono {L L':Nat->Prop} (f:∀j,L j->L' j) {p:Probe} (h:Rch m L p j):Rch m L' p j:=by
 induction h with
 | here p=>exact .here p
 | step a _ ih=>exact .step (f _ a) ih
theorem Emp.rch {L:Nat->Prop}:∀{n:Nat} {p:Probe},Emp m L n p->Rch m L p (itn (adv m) n p).j/\¬L (itn (adv m) n p).j
 | 0,p,h=>⟨.here p,h⟩
 | n+1,p,h=>⟨.step h.1 (Emp.rch h.2).1,(Emp.rch h.2).2⟩
def lh (l:List Nat):Prop:=l.Pairwise (·<·)
variable {l js:List Nat}
theorem lh.lt (r:lh l) {k:Nat} (h:i<k) (hk:k<l.length):l[i]<l[k]:=List.pairwise_iff_getElem.mp r i k (by omega) hk h
theorem oO {xs:Array Nat} {j:Nat} (r:lh xs.toList):∀(f lo hi:Nat),lo<=hi->hi<=xs.size->hi-lo<=f->(∀i (h:i<xs.toList.length),i<lo->xs.toList[i]<j)->(∀i (h:i<xs.toList.length),hi<=i->j<=xs.toList[i]) ->
  below.go xs j f lo hi<=xs.size/\(∀i (h:i<xs.toList.length),i<below.go xs j f lo hi->xs.toList[i]<j)/\∀i (h:i<xs.toList.length),below.go xs j f lo hi<=i->j<=xs.toList[i]
 | 0,lo,hi,h1,h2,h3,a,b=>by
  obtain rfl:lo=hi:=by omega
  exact⟨h2,a,b⟩
 | f+1,lo,hi,h1,h2,h3,a,b=>by
  unfold below.go;by_cases c:lo<hi
  ·rw[Qs c];have hz:xs.toList.length=xs.size:=Qm;have hm:(lo+hi) / 2<xs.toList.length:=by omega
   have e:xs.getD ((lo+hi) / 2) j=xs.toList[(lo+hi) / 2]:=by
    have:(lo+hi) / 2<xs.size:=by omega
    simp[Array.getD,this]
   dsimp only;rw[e];by_cases d:xs.toList[(lo+hi) / 2]<j
   ·rw[Qs d];refine oO r f _ hi (by omega) h2 (by omega) (λi h hx=>?_) b;by_cases z:i=(lo+hi) / 2
    ·subst z;exact d
    exact Nat.lt_trans (r.lt (show i<(lo+hi) / 2 by omega) hm) d
   rw[Qn d];refine oO r f lo _ (by omega) (by omega) (by omega) a λi h hx=>?_;by_cases z:i=(lo+hi) / 2
   ·subst z;omega
   have:=r.lt (show (lo+hi) / 2<i by omega) h;omega
  rw[Qn c];obtain rfl:lo=hi:=by omega
  exact⟨h2,a,b⟩
theorem bel {xs:Array Nat} (j:Nat) (r:lh xs.toList):below xs j<=xs.size/\(∀i (h:i<xs.toList.length),i<below xs j->xs.toList[i]<j)/\∀i (h:i<xs.toList.length),below xs j<=i->j<=xs.toList[i] :=
 oO r _ 0 xs.size (QT _) (Qg _) (by omega) (λi _ h=>absurd h (X2 _)) (λi h1 h2=>absurd h1 (by rw[Qm];omega))
theorem fY {t:SetTable} (r:lh t.place.toList) (h:t.place.toList[i]?=some j):t.slot j=.live i:=by
 obtain⟨b1,b2,b3⟩:=bel j r;obtain⟨hi,e⟩:=Qc.mp h
 have eb:below t.place j=i:=by
  by_cases c:i<below t.place j
  ·have:=b2 i hi c;omega
  by_cases d:below t.place j<i
  ·have h1:=b3 (below t.place j) (by omega) (Qg _);have h2:=r.lt d hi;omega
  omega
 unfold slot;dsimp only;rw[eb,<-Q7,h];simp
theorem nG {t:SetTable} (hd:t.dummies=#[]) (h:j∉t.place.toList):t.slot j=.empty:=by
 unfold slot;dsimp only
 have n1:(t.place[below t.place j]?==some j)=false:=by
  cases c:t.place[below t.place j]? with
  | none=>rfl
  | some k =>
  have:k∈t.place.toList:=Qh (by rw[Q7];exact c);have:k≠j:=λz=>h (z▸this);simpa using this
 rw[n1,hd];simp[has]
theorem mL {α:Type} (xs:Array α) (p:Nat) (x:α) (h:p<=xs.size):(insertAt xs p x).toList=xs.toList.take p++x::xs.toList.drop p:=by
 unfold insertAt;rw[Array.toList_append,Array.toList_push,Array.toList_extract,Array.toList_extract];simp only[List.extract_eq_take_drop,List.drop_zero,Nat.sub_zero,XN,List.singleton_append];congr 2;exact Q8 (by rw[XB,Qm];exact Qg _)
structure Tb (t:SetTable) (hs:List Int):Prop where
 msk:Msk t.mask
 dum:t.dummies=#[]
 len:t.place.toList.length=hs.length
 up:lh t.place.toList
 bd:∀j∈t.place.toList,j<t.mask+1
 rch:∀q∈t.place.toList.zip hs,Rch t.mask (·∈t.place.toList) (t.probeStart q.2) q.1
variable {hs:List Int}
theorem Tb.fits {t:SetTable} (b:Tb t hs) (h:hs.length<=t.mask):t.fits hs.length=true:=by
 have:=b.len;rw[Qm]at this;simp[SetTable.fits,fill,b.dum,this,h]
theorem qf {m:Nat} (nd:l.Nodup) (h:l.length<m+1):∃e,e<m+1/\e∉l:=by
 by_cases c:∃e,e<m+1/\e∉l
 ·exact c
 exfalso
 have all:∀e,e∈List.range (m+1)->e∈l:=λe he=>by
  by_cases d:e∈l
  ·exact d
  exact absurd ⟨e,QR.mp he,d⟩ c
 have le:∀(as bs:List Nat),as.Nodup->(∀x∈as,x∈bs)->as.length<=bs.length:=by
  intro as
  induction as with
  | nil=>intro bs _ _;exact QT _
  | cons a as ih =>
  intro bs nd h;have ha:=h a (by simp);have:=ih (bs.erase a) (QS.mp nd).2 λx hx=>(List.mem_erase_of_ne λe:x=a=>(QS.mp nd).1 (e▸hx)).mpr (h x (Qp _ hx));rw[List.length_erase_of_mem ha]at this;have:=List.length_pos_of_mem ha;simp only[Xm];omega
 have:=le _ l List.nodup_range all;rw[Q3]at this;omega
theorem lh.nodup (r:lh l):l.Nodup:=r.imp λh=>QF h
theorem Tb.put {t:SetTable} {h:Int} (b:Tb t hs) (hj:j<t.mask+1) (nj:j∉t.place.toList) (r:Rch t.mask (·∈t.place.toList) (t.probeStart h) j) :
  ∃p,p=(t.put j).2/\p<=hs.length/\(t.put j).1.mask=t.mask/\(t.put j).1.led=t.led/\(t.put j).1.plain=t.plain/\Tb (t.put j).1 (hs.take p++h::hs.drop p):=by
 obtain⟨b1,b2,b3⟩:=bel j b.up;have lz:t.place.size=hs.length:=by rw[<-Qm];exact b.len
 have nh:has t.dummies j=false:=by rw[b.dum];simp[has]
 refine⟨below t.place j,rfl,by omega,rfl,rfl,rfl,?_⟩;have pl:(t.put j).1.place.toList=t.place.toList.take (below t.place j)++j::t.place.toList.drop (below t.place j):=mL _ _ _ b1
 have mem:∀x,x∈(t.put j).1.place.toList↔x=j\/x∈t.place.toList:=λx=>by
  rw[pl,Qz,Qj]
  conv=>rhs;rw[<-XX (below t.place j) t.place.toList,Qz]
  constructor
  ·rintro(h|h|h)
   ·exact .inr (.inl h)
   ·exact .inl h
   exact .inr (.inr h)
  rintro(h|h|h)
  ·exact .inr (.inl h)
  ·exact .inl h
  exact .inr (.inr h)
 have bl:=b.len;refine⟨b.msk,?_,?_,?_,λx hx=>?_,λq hq=>?_⟩
 ·show (if has t.dummies j=true then _ else t.dummies)=#[];rw[Qn (by rw[nh];simp)];exact b.dum
 ·rw[pl];simp only[Qi,Xm,QN,XB];omega
 ·rw[pl];refine List.pairwise_append.mpr ⟨b.up.sublist (List.take_sublist _ _),List.pairwise_cons.mpr ⟨λx hx=>?_,b.up.sublist (List.drop_sublist _ _)⟩,λx hx y hy=>?_⟩
  ·obtain⟨i,hi,e⟩:=Xe hx;rw[List.getElem_drop]at e;rw[XB]at hi;have:=b3 (below t.place j+i) (by omega) (by omega);have ne:x≠j:=λz=>nj (z▸List.mem_of_mem_drop hx);omega
  obtain⟨i,hi,e⟩:=Xe hx;rw[List.getElem_take]at e;rw[QN]at hi;have h1:=b2 i (by omega) (by omega);rcases Qj.mp hy with rfl|hy
  ·omega
  obtain⟨k,hk,e2⟩:=Xe hy;rw[List.getElem_drop]at e2;rw[XB]at hk;have:=b3 (below t.place j+k) (by omega) (by omega);omega
 ·rcases(mem x).mp hx with rfl|hx
  ·exact hj
  exact b.bd x hx
 have up:∀x,x∈t.place.toList->x∈(t.put j).1.place.toList:=λx hx=>(mem x).mpr (.inr hx);rw[pl,List.zip_append (by rw[QN,QN];omega),List.zip_cons_cons,Qz,Qj]at hq
 have old:∀q,q∈(t.place.toList.take (below t.place j)).zip (hs.take (below t.place j))\/q∈(t.place.toList.drop (below t.place j)).zip (hs.drop (below t.place j))->q∈t.place.toList.zip hs:=λq hq=>by
  rw[<-XX (below t.place j) t.place.toList,<-XX (below t.place j) hs,List.zip_append (by rw[QN,QN];omega),Qz];simpa using hq
 rcases hq with hq|rfl|hq
 ·exact(b.rch q (old q (.inl hq))).mono up
 ·exact r.mono up
 exact(b.rch q (old q (.inr hq))).mono up
theorem nH (h:i<m+1):i<=runEnd m i/\runEnd m i<m+1:=by unfold runEnd;split <;> omega
theorem nc {p:Probe} (h:p.more>0):adv m p={ p with j:=p.j+1,more:=p.more-1 }:=Qs h
theorem sK {m:Nat} {L:Nat->Prop}:∀(k:Nat) (p:Probe),k<=p.more->(∀d,d<k->L (p.j+d))->Rch m L p (p.j+k)
 | 0,p,_,_=>.here p
 | k+1,p,h,a=>by
  refine .step (a 0 (by omega)) ?_;rw[nc (by omega),show p.j+(k+1)=p.j+1+k by omega];exact sK k { p with j:=p.j+1,more:=p.more-1 } (by show k<=p.more-1;omega) λd hd=>by have:=a (d+1) (by omega);rw[show p.j+(d+1)=p.j+1+d by omega]at this;exact this
theorem sL {m j:Nat} {L:Nat->Prop}:∀(k:Nat) (p:Probe),p.more=k->p.dummy=none->(∀d,d<=k->L (p.j+d))->Rch m L (beg m (lps m (p.i,p.perturb))) j->Rch m L p j
 | 0,p,h,hd,a,r=>by
  refine .step (a 0 (Qg _)) ?_;have:=lc m 0 p h hd;rw[show itn (adv m) (0+1) p=adv m p from rfl]at this;rw[this];exact r
 | k+1,p,h,hd,a,r=>by
  refine .step (a 0 (QT _)) ?_;rw[nc (by omega)];exact sL k { p with j:=p.j+1,more:=p.more-1 } (by show p.more-1=k;omega) hd (λd hd=>by have:=a (d+1) (by omega);rw[show p.j+(d+1)=p.j+1+d by omega]at this;exact this) r
def Ln (m:Nat) (owner:Array (Option Nat)) (j:Nat):Prop:=j<m+1/\owner.getD j none≠none
theorem xb {m e:Nat} {owner:Array (Option Nat)} (ho:owner.size=m+1) (he:e<m+1) (ee:owner.getD e none=none):∀(f i per:Nat),i<m+1->(∃n,n<f/\(itn (lps m) n (i,per)).1=e) ->
  ∃j,layClean.free m owner f i per=some j/\j<m+1/\owner.getD j none=none/\Rch m (Ln m owner) (beg m (i,per)) j
 | 0,i,per,hi,⟨n,hn,_⟩=>absurd hn (X2 _)
 | f+1,i,per,hi,⟨n,hn,en⟩=>by
  obtain⟨r1,r2⟩:=nH hi
  have gd:∀j,j<m+1->owner.getD j (some 0)=owner.getD j none:=λj hj=>by
   have:j<owner.size:=by omega
   simp[Array.getD,this]
  unfold layClean.free
  cases c:(List.range (runEnd m i+1-i)).find? λk=>(owner.getD (i+k) (some 0)).isNone with
  | some k =>
   obtain⟨h1,as,bs,h2,h3⟩:=List.find?_eq_some_iff_append.mp c;have hk:k∈List.range (runEnd m i+1-i):=List.mem_of_find?_eq_some c;rw[QR]at hk;have kl:i+k<m+1:=by omega
   rw[gd _ kl]at h1;refine⟨i+k,rfl,kl,by simpa using h1,?_⟩;refine sK (m:=m) (L:=Ln m owner) k (beg m (i,per)) (by show k<=runEnd m i-i;omega) λd hd=>?_;have hd2:i+d<m+1:=by omega
   refine⟨hd2,λz=>?_⟩;have z:owner.getD (i+d) none=none:=z
   have mem:d∈as:=by
    have e1:d∈as++k::bs:=by rw[<-h2,QR];omega
    rcases Qz.mp e1 with q|q
    ·exact q
    exfalso;have sr:(as++k::bs).Pairwise (·<·):=by rw[<-h2];exact List.pairwise_lt_range
    have:=(List.pairwise_cons.mp (List.pairwise_append.mp sr).2.1).1;rcases Qj.mp q with rfl|q
    ·omega
    have:=this d q;omega
   have:=h3 d mem;rw[gd _ hd2,z]at this;simp at this
  | none =>
  have all:∀d,d<=runEnd m i-i->Ln m owner (i+d):=λd hd=>by
   have hd2:i+d<m+1:=by omega
   refine⟨hd2,λz=>?_⟩;have:=List.find?_eq_none.mp c d (QR.mpr (by omega));rw[gd _ hd2,z]at this;simp at this
  cases n with
  | zero=>exact absurd ee (by have:=all 0 (QT _);rw[show e=i+0 from en.symm];exact this.2)
  | succ n =>
  obtain⟨j,q1,q2,q3,q4⟩:=xb ho he ee f (lps m (i,per)).1 (lps m (i,per)).2 (Nat.mod_lt _ (Nat.succ_pos _)) ⟨n,by omega,en⟩;exact⟨j,q1,q2,q3,sL _ (beg m (i,per)) rfl rfl all q4⟩
structure Lay (m:Nat) (owner:Array (Option Nat)) (js:List Nat) (hs:List Int):Prop where
 sz:owner.size=m+1
 len:js.length=hs.length
 nd:js.Nodup
 bd:∀j∈js,j<m+1
 own:∀j i,j<m+1->(owner.getD j none=some i↔js[i]?=some j)
 rch:∀q∈js.zip hs,Rch m (·∈js) (beg m (bits q.2 % (m+1),bits q.2)) q.1
theorem wq (h:Int):bits h<2 ^ 64:=by
 unfold bits;have h1:0<=h % (2 ^ 64:Int):=Int.emod_nonneg _ (by decide);have h2:h % (2 ^ 64:Int)<2 ^ 64:=Int.emod_lt_of_pos _ (by decide);omega
theorem Lay.more {owner:Array (Option Nat)} (hm:Msk m) (l:Lay m owner js hs) (h:Int) (fw:hs.length<m+1) :
  ∃j,layClean.free m owner (turns m) (bits h % (m+1)) (bits h)=some j/\Lay m (owner.setIfInBounds j (some hs.length)) (js++[j]) (hs++[h]):=by
 obtain⟨e,he,ne⟩:=qf l.nd (by rw[l.len];exact fw)
 have none_of:∀j,j<m+1->j∉js->owner.getD j none=none:=λj hj nj=>by
  cases c:owner.getD j none with
  | none=>rfl
  | some i=>exact absurd (Qh ((l.own j i hj).mp c)) nj
 obtain⟨n,hn,en⟩:=xg (x:=(bits h % (m+1),bits h)) hm (Nat.mod_lt _ (Nat.succ_pos _)) (wq h) he;obtain⟨j,f1,f2,f3,f4⟩:=xb l.sz he (none_of e he ne) (turns m) (bits h % (m+1)) (bits h) (Nat.mod_lt _ (Nat.succ_pos _)) ⟨n,by unfold turns;omega,en⟩
 have mem_of:∀j,Ln m owner j->j∈js:=λj ⟨a,b⟩=>by
  cases c:owner.getD j none with
  | none=>exact absurd c b
  | some i=>exact Qh ((l.own j i a).mp c)
 have nj:j∉js:=λz=>by
  obtain⟨i,hi,e⟩:=Xe z;rw[(l.own j i f2).mpr (by rw[Qb hi,e])]at f3;cases f3
 have up:∀x,x∈js->x∈js++[j]:=λx hx=>Xa _ hx;refine⟨j,f1,by simp[l.sz],by simp[l.len],?_,λx hx=>?_,λx i hx=>?_,λq hq=>?_⟩
 ·exact XC.mpr ⟨l.nd,by simp,λa ha b hb e=>nj (by simp at hb;rw[<-hb,<-e];exact ha)⟩
 ·rcases Qz.mp hx with hx|hx
  ·exact l.bd x hx
  simp at hx;rw[hx];exact f2
 ·have hj:j<owner.size:=by rw[l.sz];exact f2
  have gd:(owner.setIfInBounds j (some hs.length)).getD x none=if j=x then some hs.length else owner.getD x none:=by
   rw[QY,Array.getElem?_setIfInBounds];by_cases c:j=x
   ·subst c;simp[hj]
   rw[Qn c,Qn c,QY]
  rw[gd];by_cases c:j=x
  ·subst c;rw[Qs rfl]
   constructor
   ·intro z;cases z;rw[<-l.len,QJ (Qg _)];simp
   intro z;by_cases d:i<js.length
   ·rw[QG d]at z;exact absurd (Qh z) nj
   have:=(Qc.mp z).1;rw[Qi,QK]at this;rw[show i=js.length by omega,l.len]
  rw[Qn c,l.own x i hx];by_cases d:i<js.length
  ·rw[QG d]
  rw[QU (by omega),QJ (by omega)]
  constructor
  ·intro z;cases z
  intro z;have:=Qh z;simp at this;exact absurd this.symm c
 rw[List.zip_append l.len,Qz]at hq;rcases hq with hq|hq
 ·exact(l.rch q hq).mono up
 simp at hq;subst hq;exact(f4.mono mem_of).mono up
theorem mG {m:Nat} (hm:Msk m):∀(more hs:List Int) (owner:Array (Option Nat)) (js:List Nat),Lay m owner js hs->hs.length+more.length<=m+1 ->
  ∃owner' js',more.foldl (λ(acc:Option (Array (Option Nat) × Nat)) h=>do
   let (owner,k) <-acc;let j <-layClean.free m owner (turns m) (bits h % (m+1)) (bits h)
   pure (owner.setIfInBounds j (some k),k+1)) (some (owner,hs.length))=some (owner',(hs++more).length)/\Lay m owner' js' (hs++more)
 | [],hs,owner,js,l,_=>⟨owner,js,by simp,by simpa using l⟩
 | h::more,hs,owner,js,l,z=>by
  rw[Xm]at z;obtain⟨j,e,l'⟩:=l.more hm h (by omega);obtain⟨o',js',e2,l2⟩:=mG hm more (hs++[h]) _ _ l' (by simp;omega);refine⟨o',js',?_,by simpa using l2⟩;rw[List.foldl_cons]
  have st:(do
    let (owner,k) <-some (owner,hs.length);let j <-layClean.free m owner (turns m) (bits h % (m+1)) (bits h)
    pure (owner.setIfInBounds j (some k),k+1):Option (Array (Option Nat) × Nat))=some (owner.setIfInBounds j (some hs.length),(hs++[h]).length):=by
   show (layClean.free m owner (turns m) (bits h % (m+1)) (bits h)).bind _=_;rw[e];simp
  rw[st,e2];simp
theorem rb (hm:Msk m) (hs:Array Int) (fw:hs.size<=m+1):∃owner js,layClean m hs=some owner/\Lay m owner js hs.toList:=by
 have l0:Lay m (Array.replicate (m+1) none) [] []:=⟨by simp,rfl,List.nodup_nil,λj h=>(nomatch h),λj i hj=>by simp[Array.getD,hj],λq hq=>(nomatch hq)⟩;obtain⟨o,js,e,l⟩:=mG hm hs.toList [] _ _ l0 (by simpa using fw);refine⟨o,js,?_,by simpa using l⟩;unfold layClean;rw[<-Array.foldl_toList];have e':=congrArg (Option.map (·.1)) e;exact e'
theorem tY {α:Type} [DecidableEq α]:∀(as bs:List α),as.Nodup->(∀x∈as,x∈bs)->as.length<=bs.length
 | [],_,_,_=>QT _
 | a::as,bs,nd,h=>by
  have ha:=h a (by simp);have:=tY as (bs.erase a) (QS.mp nd).2 λx hx=>(List.mem_erase_of_ne λe:x=a=>(QS.mp nd).1 (e▸hx)).mpr (h x (Qp _ hx));rw[List.length_erase_of_mem ha]at this;have:=List.length_pos_of_mem ha;simp only[Xm];omega
theorem pU {α:Type} [DecidableEq α]:∀(as bs:List α),as.Nodup->(∀x∈as,x∈bs)->bs.length<=as.length->as.Perm bs
 | [],bs,_,_,h=>by
  obtain rfl:bs=[]:=List.length_eq_zero_iff.mp (by simpa using h);exact .nil
 | a::as,bs,nd,h,z=>by
  obtain⟨n1,n2⟩:=QS.mp nd;have ha:=h a (by simp);have q:=pU as (bs.erase a) n2 (λx hx=>(List.mem_erase_of_ne λ(e:x=a)=>n1 (e▸hx)).mpr (h x (Qp _ hx))) (by rw[List.length_erase_of_mem ha];simp at z;omega);exact(q.cons a).trans (List.perm_cons_erase ha).symm
theorem zu {α:Type} [DecidableEq α] {as bs:List α} (n1:as.Nodup) (n2:bs.Nodup) (h:∀x,x∈as↔x∈bs):as.Perm bs:=pU as bs n1 (λx=>(h x).mp) (tY bs as n2 λx=>(h x).mpr)
theorem zD {α:Type} (hm:Msk m) (es:Array (Int × α)) (fw:es.size<=m+1) (finger moves:Nat) (led plain:Bool):∃t order,laid m finger moves led plain (es.map (·.1))=some (t,order)/\t.mask=m/\t.led=led/\t.plain=plain /\
  (order.filterMap (es[·]?)).toList.Perm es.toList/\Tb t ((order.filterMap (es[·]?)).toList.map (·.1)):=by
 obtain⟨owner,js,e,l⟩:=rb hm (es.map (·.1)) (by simpa using fw);rw[Array.toList_map]at l;have ll:js.length=es.size:=by have:=l.len;rwa [Qd,Qm]at this
 let live:=(List.range (m+1)).filterMap λj=>(owner.getD j none).map (j,·)
 have mem:∀j i,(j,i)∈live↔j<m+1/\js[i]?=some j:=λj i=>by
  show (j,i)∈(List.range (m+1)).filterMap _↔_;rw[List.mem_filterMap]
  constructor
  ·rintro⟨x,hx,z⟩;obtain⟨y,hy,z⟩:=Xu.mp z;cases z;have hx:=QR.mp hx;exact⟨hx,(l.own j i hx).mp hy⟩
  rintro⟨h1,h2⟩;exact⟨j,QR.mpr h1,by rw[(l.own j i h1).mpr h2];rfl⟩
 have f1:live.map (·.1)=(List.range (m+1)).filter λj=>(owner.getD j none).isSome:=by
  show ((List.range (m+1)).filterMap _).map _=_;generalize List.range (m+1)=r
  induction r with
  | nil=>rfl
  | cons x r ih =>
  cases c:owner.getD x none with
  | none=>rw[List.filterMap_cons_none (by rw[c];rfl),ih,List.filter_cons_of_neg (by rw[c];simp)]
  | some i=>rw[List.filterMap_cons_some (by rw[c];rfl),Qx,ih,List.filter_cons_of_pos (by rw[c];rfl)]
 have up:lh (live.map (·.1)):=by rw[f1];exact List.pairwise_lt_range.sublist List.filter_sublist
 have ms:∀j,j∈live.map (·.1)↔j∈js:=λj=>by
  rw[Ql]
  constructor
  ·rintro⟨⟨x,i⟩,h,rfl⟩;exact Qh ((mem x i).mp h).2
  intro h;obtain⟨i,hi,ei⟩:=Xe h;exact⟨(j,i),(mem j i).mpr ⟨l.bd j h,by rw[Qb hi,ei]⟩,rfl⟩
 have inj:∀q∈live,∀r∈live,q.2=r.2->q=r:=λ⟨j,i⟩ hq ⟨j',i'⟩ hr z=>by
  cases z;have h1:=((mem j i).mp hq).2;have h2:=((mem j' i).mp hr).2;rw[h1]at h2;cases h2;rfl
 have ndl:live.Nodup:=by
  have:(live.map (·.1)).Nodup:=up.nodup;rw[List.nodup_iff_pairwise_ne,Xo]at this;exact List.nodup_iff_pairwise_ne.mpr (this.imp λh z=>h (by rw[z]))
 have nd2:(live.map (·.2)).Nodup:=by
  rw[List.nodup_iff_pairwise_ne]at ndl ⊢;rw[Xo];exact ndl.imp_of_mem λha hb ne z=>ne (inj _ ha _ hb z)
 have pr:(live.map (·.2)).Perm (List.range es.size):=zu nd2 List.nodup_range λi=>by
  rw[Ql,QR]
  constructor
  ·rintro⟨⟨j,k⟩,h,rfl⟩;have:=(Qc.mp ((mem j k).mp h).2).1;show k<_;omega
  intro h;have hi:i<js.length:=by omega
  exact⟨(js[i],i),(mem _ _).mpr ⟨l.bd _ (QW hi),Qb hi⟩,rfl⟩
 refine⟨{ mask:=m,place:=(live.map (·.1)).toArray,dummies:=#[],finger,led,moves,plain },(live.map (·.2)).toArray,?_,rfl,rfl,rfl,?_,?_⟩
 ·unfold laid;rw[e];rfl
 ·rw[Array.toList_filterMap];refine(pr.filterMap _).trans (.of_eq ?_);refine XW λi=>?_
  have:∀n k,n<=es.size->((List.range n).filterMap (es[·]?))[k]?=if k<n then es[k]? else none:=by
   intro n
   induction n with
   | zero=>intro k _;simp
   | succ n ih =>
   intro k hn
   have ln:((List.range n).filterMap (es[·]?)).length=n:=by
    have h1:=ih n (by omega);rw[Qn (X7 _)]at h1;have h1:=Xd.mp h1;by_cases c:n=0
    ·subst c;rfl
    have h2:=ih (n-1) (by omega);rw[Qs (by omega),QL (show n-1<es.size by omega)]at h2;have:=(Qc.mp h2).1;omega
   rw[X5,List.filterMap_append,List.filterMap_cons_some (QL (show n<es.size by omega)),List.filterMap_nil];by_cases c:k<n
   ·rw[QG (by omega),ih k (by omega),Qs c,Qs (by omega)]
   rw[QJ (by omega),ln];by_cases d:k=n
   ·subst d;simp <;> omega
   rw[Qn (by omega),QU (by simp;omega)]
  rw[this _ _ (Qg _),Q7]
  split
  ·rfl
  rename_i h;rw[Array.getElem?_eq_none (by omega)]
 have fm:((live.map (·.2)).toArray.filterMap (es[·]?)).toList.map (·.1)=live.map λq=>(es.toList.map (·.1)).getD q.2 0:=by
  rw[Array.toList_filterMap];show ((live.map (·.2)).filterMap (es[·]?)).map (·.1)=_
  have all:∀q∈live,q.2<es.size:=λ⟨j,k⟩ h=>by
   have:=(Qc.mp ((mem j k).mp h).2).1;show k<_;omega
  generalize live=lv at all
  induction lv with
  | nil=>rfl
  | cons q lv ih =>
  have hq:=all q (by simp);rw[Qx,List.filterMap_cons_some (QL hq),Qx,Qx,ih λr hr=>all r (Qp _ hr)];congr 1;rw[Qo,Qq,Q7,QL hq];rfl
 rw[fm];refine⟨hm,rfl,by simp,by simpa using up,λj hj=>?_,λq hq=>?_⟩
 ·have hj:j∈live.map (·.1):=by simpa using hj
  exact l.bd j ((ms j).mp hj)
 have hq:q∈(live.map (·.1)).zip (live.map λq=>(es.toList.map (·.1)).getD q.2 0):=by simpa using hq
 rw[List.zip_map',Ql]at hq;obtain⟨⟨j,i⟩,h1,rfl⟩:=hq;obtain⟨h2,h3⟩:=(mem j i).mp h1;have hi:=(Qc.mp h3).1
 have z:(j,(es.toList.map (·.1)).getD i 0)∈js.zip (es.toList.map (·.1)):=by
  have hz:i<(es.toList.map (·.1)).length:=by rw[<-l.len];exact hi
  refine Qh (i:=i) ?_;rw[XU];exact⟨h3,by rw[Qo,Qb hz];rfl⟩
 refine(l.rch _ z).mono λx hx=>?_;have:=(ms x).mpr hx;simpa using this
end Ht
namespace Ht
open PySem PySem.Spec PyProof.Rows L2 PySem.SetTable
section
variable {prog:Program} {w:World} {A:Around} {E:A0} {s:Shared}
theorem jK {α:Type} {P:α->Prop} {Q:Option Bool × PUnit->Shared->Prop} {f:α->Option Bool × PUnit->Sem (ForInStep (Option Bool × PUnit))} (l:List α) (hl:∀x∈l,P x)
  (hf:∀x,P x->∀(R:ForInStep (Option Bool × PUnit)->Shared->Prop),R (.yield (none,⟨⟩)) s->wpAny (model prog w) A (f x (none,⟨⟩)) R E s) (h:Q (none,⟨⟩) s):wpAny (model prog w) A (forIn l (none,⟨⟩) f) Q E s:=by
 refine wpAny_forIn_list _ (λrest r s'=>r=(none,⟨⟩)/\s'=s/\∀x∈rest,P x) _ ?_ ?_ _ _ ⟨rfl,rfl,hl⟩
 ·rintro x rest r s' ⟨rfl,rfl,a⟩;exact hf x (a x (by simp)) _ ⟨rfl,rfl,λy hy=>a y (Qp _ hy)⟩
 rintro r s' ⟨rfl,rfl,_⟩;exact h
variable {v:Value}
theorem vU {k:Key} (h:(au prog w).is k v=true):(∃i t,v=.int i t)\/∃x t,v=.str x t:=by
 rcases aK (show db k v=true from h) with⟨i,t,_,e⟩|⟨x,t,_,e⟩
 ·exact .inl ⟨i,t,e⟩
 exact .inr ⟨x,t,e⟩
variable {vs:List Value}
theorem vY {ks:List Key} (h:ItemsAre (au prog w) ks vs):∀v∈vs,∃k,(au prog w).is k v=true:=by
 induction h with
 | nil=>intro v hv;cases hv
 | cons q _ ih =>
 intro v hv;rcases Qj.mp hv with rfl|hv
 ·exact⟨_,q⟩
 exact ih v hv
theorem um {h:Heap} {ks:av} (x:TK.Its (au prog w) h ks vs):∀v∈vs,∃k,TK.It (au prog w) h k v:=by
 induction x with
 | nil=>intro v hv;cases hv
 | cons q _ ih =>
 intro v hv;rcases Qj.mp hv with rfl|hv
 ·exact⟨_,q⟩
 exact ih v hv
variable {Q:Bool->Shared->Prop}
theorem jy {k:Key} {d:Nat} (hk:(au prog w).is k v=true) (h:Q false s):wpAny (model prog w) A (ofAClassStatement d v) Q E s:=by
 rcases vU hk with⟨i,t,rfl⟩|⟨x,t,rfl⟩ <;> (unfold ofAClassStatement;exact Qf h)
variable {b:Addr}
theorem jz {o:Obj} {its:Array Value} {n d:Nat} {P:Value->Prop} (ho:s.heap.get? b=some o) (hc:o.cls=.type "tuple") (hd:o.data=.seq its n) (hp:∀v∈its.toList,P v)
  (hf:∀v,P v->∀(R:Bool->Shared->Prop),R false s->wpAny (model prog w) A (ofAClassStatement d v) R E s) (h:Q false s):wpAny (model prog w) A (ofAClassStatement (d+1) (.ref b)) Q E s:=by
 unfold ofAClassStatement;refine Qa (wpAny_typeOf (T := "tuple") ⟨o,ho,hc⟩ ?_);dsimp only;rw[Qs (by decide)];refine Qa (Qf ?_);rw[Qn (by decide)];unfold seqItems?;refine Qa (Qa (wpAny_load ho ?_));rw[hd];refine Qf ?_;dsimp only;refine Qa ?_;rw[<-Array.forIn_toList];refine jK its.toList hp (λv hv R hR=>Qa (hf v hv _ ?_)) ?_
 ·rw[Qn Qr];exact Qf hR
 exact Qf h
theorem pS {k:av} (hk:TK.IsT (au prog w) s.heap k b) (h:Q false s):wpAny (model prog w) A (ofAClassStatement 8 (.ref b)) Q E s:=by
 obtain⟨o,its,n,h1,h2,h3,h4⟩:=hk;refine jz (d:=7) h1 h2 h3 (um h4) (λv ⟨k,hv⟩ R hR=>?_) h
 cases k with
 | inl k=>exact jy hv hR
 | inr ks =>
 obtain⟨c,rfl,o,its,n,h1,h2,h3,h4⟩:=hv;exact jz (d:=6) h1 h2 h3 (vY h4) (λv ⟨k,hv⟩ R hR=>jy hv hR) hR
def yr:Key->Bool
 | .inl _=>true
 | .inr _=>false
def byV2:Key ⊕ List Key->Bool
 | .inl k=>yr k
 | .inr ks=>ks.all yr
theorem xi {k:Key} {d:Nat} (hk:(au prog w).is k v=true) (h:Q (yr k) s):wpAny (model prog w) A (hashByValue d v) Q E s:=by
 rcases aK (show db k v=true from hk) with⟨i,t,rfl,rfl⟩|⟨x,t,rfl,rfl⟩ <;> (unfold hashByValue;exact Qf h)
theorem xj {α:Type} {o:Obj} {its:Array Value} {n d:Nat} {P:α->Value->Prop} {g:α->Bool} {xs:List α} (ho:s.heap.get? b=some o) (hc:o.cls=.type "tuple") (hd:o.data=.seq its n) (hp:Paired P xs its.toList)
  (hf:∀x v,P x v->∀(R:Bool->Shared->Prop),R (g x) s->wpAny (model prog w) A (hashByValue d v) R E s) (h:Q (xs.all g) s):wpAny (model prog w) A (hashByValue (d+1) (.ref b)) Q E s:=by
 unfold hashByValue;refine Qa (wpAny_specialOf (T := "tuple") ⟨o,ho,hc⟩ F.slot_tuple_hash.lookup ?_);dsimp only;unfold seqItems?;refine Qa (Qa (wpAny_load ho ?_));rw[hd];refine Qf ?_;refine Qa ?_;rw[Option.getD_some,<-Array.forIn_toList];refine wpAny_forIn_list _ (λrest r s'=>r.1=none/\s'=s/\∃ys,Paired P ys rest/\xs.all g=ys.all g) _ ?_ ?_ _ _ ⟨rfl,rfl,xs,hp,rfl⟩
 ·rintro x rest r s' ⟨_,rfl,ys,a,e⟩
  cases a with
  | @cons y _ ys _ q t =>
  refine Qa (hf y x q _ ?_);rw[List.all_cons]at e
  cases c:g y with
  | true=>rw[c,Bool.true_and]at e;exact Qf ⟨rfl,rfl,ys,t,e⟩
  | false=>rw[c,Bool.false_and]at e;rw[e]at h;exact Qf (Qf h)
 rintro⟨r1,r2⟩ s' ⟨hr,rfl,ys,a,e⟩;dsimp only at hr;subst hr;cases a;rw[e]at h;exact Qf h
theorem yf {ks:List Key} (h:ItemsAre (au prog w) ks vs):Paired (λk v=>(au prog w).is k v=true) ks vs:=by
 induction h with
 | nil=>exact .nil
 | cons q _ ih=>exact .cons q ih
theorem vX {h:Heap} {ks:av} (x:TK.Its (au prog w) h ks vs):Paired (TK.It (au prog w) h) ks vs:=by
 induction x with
 | nil=>exact .nil
 | cons q _ ih=>exact .cons q ih
theorem byv {k:av} (hk:TK.IsT (au prog w) s.heap k b) (h:Q (k.all byV2) s):wpAny (model prog w) A (hashByValue 8 (.ref b)) Q E s:=by
 obtain⟨o,its,n,h1,h2,h3,h4⟩:=hk;refine xj (d:=7) h1 h2 h3 (vX h4) (λk v hv R hR=>?_) h
 cases k with
 | inl k=>exact xi hv hR
 | inr ks =>
 obtain⟨c,rfl,o,its,n,h1,h2,h3,h4⟩:=hv;exact xj (d:=6) h1 h2 h3 (yf h4) (λk v hv R hR=>xi hv hR) hR
end
theorem xa {t:SetTable} {hs:List Int} {f:Nat->Int} {h:Int} (b:Tb t hs):∀(n:Nat) (p:Probe) (fu:Nat),Emp t.mask (·∈t.place.toList) n p->n<fu->p.dummy=none ->
  (probe.go t f h fu p=some (.empty (itn (adv t.mask) n p).j none)/\∀d,d<n->∀i,t.place.toList[i]?=some (itn (adv t.mask) d p).j->f i≠h) \/
  ∃d i,d<n/\t.place.toList[i]?=some (itn (adv t.mask) d p).j/\f i=h/\probe.go t f h fu p=some (.candidate (itn (adv t.mask) d p).j i (itn (adv t.mask) (d+1) p))/\Emp t.mask (·∈t.place.toList) (n-(d+1)) (itn (adv t.mask) (d+1) p) /\
   (itn (adv t.mask) (d+1) p).dummy=none/\∀d',d'<d->∀i',t.place.toList[i']?=some (itn (adv t.mask) d' p).j->f i'≠h
 | 0,p,fu+1,e,_,hd=>by
  refine .inl ⟨?_,λd hd=>absurd hd (X2 _)⟩;unfold probe.go;rw[nG b.dum e];show some (Met.empty p.j p.dummy)=_;rw[hd];rfl
 | n+1,p,fu+1,e,hn,hd=>by
  obtain⟨i,hi,ei⟩:=Xe e.1;have ei:t.place.toList[i]?=some p.j:=by rw[Qb hi,ei]
  have hd':(adv t.mask p).dummy=none:=by unfold adv;split <;> exact hd
  by_cases c:f i=h
  ·refine .inr ⟨0,i,by omega,ei,c,?_,e.2,hd',λd' hd=>absurd hd (X2 _)⟩;unfold probe.go;rw[fY b.up ei];dsimp only;rw[Qs (by simpa using c)];rfl
  have st:probe.go t f h (fu+1) p=probe.go t f h fu (adv t.mask p):=by
   conv=>lhs;unfold probe.go
   rw[fY b.up ei];dsimp only;rw[Qn (by simpa using c)];rfl
  have one:∀i',t.place.toList[i']?=some p.j->i'=i:=λi' z=>by
   have:=(List.getElem?_inj hi b.up.nodup).mp (ei.trans z.symm);exact this.symm
  rcases xa b n (adv t.mask p) fu e.2 (by omega) hd' with⟨g1,g2⟩|⟨d,i2,g1,g2,g3,g4,g5,g6,g7⟩
  ·refine .inl ⟨by rw[st];exact g1,λd hd=>?_⟩
   cases d with
   | zero=>intro i' z;rw[one i' z];exact c
   | succ d=>exact g2 d (by omega)
  refine .inr ⟨d+1,i2,by omega,g2,g3,by rw[st];exact g4,by rw[show n+1-(d+1+1)=n-(d+1) by omega];exact g5,g6,λd' hd=>?_⟩
  cases d' with
  | zero=>intro i' z;rw[one i' z];exact c
  | succ d'=>exact g7 d' (by omega)
section
variable {prog:Program} {w:World}
def El (prog:Program) (w:World) (B:Addr->Prop) (h:Heap) (e:Int × Value) (k:av):Prop:=∃b,e.2=.ref b/\TK.IsT (au prog w) h k b/\e.1=(bh prog w).hash k/\B b
abbrev vj (es:Array (Int × Value)) (ep:Nat) (t:SetTable):Obj:={ cls:=.type "set", data:=.set es ep t }
theorem El.at {B:Addr->Prop} {h h':Heap} {a:Addr} {o:Obj} {e:Int × Value} {k:av} (x:El prog w B h e k) (ho:h.get? a=some o) (hc:o.cls≠.type "tuple") (sb:∀b o,b≠a->h.get? b=some o->h'.get? b=some o):El prog w B h' e k:=by
 obtain⟨b,e1,e2,e3⟩:=x;exact⟨b,e1,Tm.cj e2 λc oc hc' hcl=>sb c oc (λz=>by rw[z,ho]at hc';cases hc';exact hc hcl) hc',e3⟩
theorem fT {B:Addr->Prop} {h:Heap}:∀{es:List (Int × Value)} {ks:List av} {i:Nat},Paired (El prog w B h) es ks->∀{e},es[i]?=some e->∃k,ks[i]?=some k/\El prog w B h e k
 | _,_,_,.nil,_,e=>by simp at e
 | _,_,0,.cons r _,_,e=>by simp at e;subst e;exact⟨_,rfl,r⟩
 | _,_,i+1,.cons _ t,_,e=>by obtain⟨k,h1,h2⟩:=fT (i:=i) t (by simpa using e);exact⟨k,by simpa using h1,h2⟩
variable {A:Around} {E:A0} {s:Shared} {a b:Addr} {es:Array (Int × Value)} {ep:Nat} {t:SetTable} {ks:List av} {kx:av}
theorem xm {l:List Value} {Q:Bool->Shared->Prop} (hx:TK.IsT (au prog w) s.heap kx b) (hl:∀v∈l,∃c k,v=.ref c/\TK.IsT (au prog w) s.heap k c) (h:Q false s):wpAny (model prog w) A (searchCouldBeSeen (.ref b) l) Q E s:=by
 unfold searchCouldBeSeen;refine Qa (jK l hl (λv ⟨c,k,e,hv⟩ R hR=>?_) (Qf h));subst e;dsimp only;refine wpAny_ite_split (λ_=>Qf hR) λ_=>?_;refine Qa (TK.t_quiet hx ?_);rw[Qn (by simp)];refine Qa (TK.t_quiet hv ?_);rw[Qn (by simp)];refine Qa (pS hx ?_);rw[Qn Qr];refine Qa (pS hv ?_);rw[Qn Qr];exact Qf hR
end
section
variable {prog:Program} {w:World} {A:Around} {E:A0} {s:Shared} {a b:Addr} {es:Array (Int × Value)} {ep:Nat} {t:SetTable} {ks:List av} {kx:av} {B:Addr->Prop}
theorem vJ {m:Nat} (h:Msk m):m % 2=1:=by rcases h with rfl|rfl|rfl <;> rfl
theorem xz (hu:A.units+1<cLine) (ho:s.heap.get? a=some (vj es ep t)) (b0:Tb t (es.toList.map (·.1))) (fw:es.size<=t.mask) (el:Paired (El prog w B s.heap) es.toList ks) (hx:TK.IsT (au prog w) s.heap kx b) {Q:SetFound->Shared->Prop} :
  ∀(n:Nat) (p:Probe) (fu:Nat) (st:Option Probe),st.getD (t.probeStart ((bh prog w).hash kx))=p->Emp t.mask (·∈t.place.toList) n p->n<fu->n<10*turns t.mask->p.dummy=none ->
   ((∃d i:Nat,d<n/\t.place.toList[i]?=some (itn (adv t.mask) d p).j/\ks[i]?=some kx)/\Q (.there none) s\/kx∉ks/\Q (.free (itn (adv t.mask) n p).j false) s) ->
   wpAny (model prog w) A (setSearchFrom a (.ref b) ((bh prog w).hash kx) true fu st) Q E s:=by
 have hf:t.fits es.size=true:=by have:=b0.fits (by rw[Qd,Qm];exact fw);rwa [Qd,Qm]at this
 have pz:t.place.toList.length=es.toList.length:=by rw[b0.len,Qd]
 have gw:t.gaveWay=false:=by have:=vJ b0.msk;simp[gaveWay,this]
 intro n
 induction n using Nat.strongRecOn with
 | _ n ih =>
 intro p fu st est e hn hn2 hd q;obtain⟨fu,rfl⟩:∃f,fu=f+1:=⟨fu-1,by omega⟩;unfold setSearchFrom;refine Qa (Xx ho rfl hf ?_);dsimp only;rw[gw,est];rw[Qn Qr];have go:=xa (f:=λi=>(es[i]?.map (·.1)).getD 0) (h:=(bh prog w).hash kx) b0 n p (10*turns t.mask) e hn2 hd
 have at_:∀(i:Nat) (k:av),ks[i]?=some k->∃(e:Int × Value) (c:Addr),es[i]?=some e/\e.2=.ref c/\TK.IsT (au prog w) s.heap k c/\(es[i]?.map (·.1)).getD 0=(bh prog w).hash k:=λi k hk=>by
  have hi:i<es.toList.length:=by rw[Xk el];exact(Qc.mp hk).1
  obtain⟨k',h1,c,h2,h3,h4⟩:=fT el (Qb hi);rw[hk]at h1;cases h1;rw[Qm]at hi;exact⟨es[i],c,QL hi,h2,h3,by rw[QL hi];exact h4.1⟩
 split
 ·rename_i met hmet
  have hmet:probe.go t (λi=>(es[i]?.map (·.1)).getD 0) ((bh prog w).hash kx) (10*turns t.mask) p=some met:=hmet;rcases go with⟨g1,g2⟩|⟨d,i,g1,g2,g3,g4,g5,g6,g7⟩
  ·rw[g1]at hmet;cases hmet;rcases q with⟨⟨d,i,h1,h2,h3⟩,_⟩|⟨_,q⟩
   ·obtain⟨_,_,_,_,_,z⟩:=at_ i kx h3;exact absurd z (g2 d h1 i h2)
   exact Qf q
  rw[g4]at hmet;cases hmet;have hi:i<es.size:=by have:=(Qc.mp g2).1;rw[<-Qm];omega
  obtain⟨k,hk,c,hc,hic,hh⟩:=fT el (i:=i) (e:=es[i]) (by rw[Q7];exact QL hi)
  have all:∀v∈List.map (λx:Int × Value=>x.2) (Array.filter (λx=>x.1==(bh prog w).hash kx) es).toList,∃c k,v=.ref c/\TK.IsT (au prog w) s.heap k c:=λv hv=>by
   obtain⟨e,he,rfl⟩:=Ql.mp hv;rw[Array.toList_filter]at he;obtain⟨j,hj⟩:=Xl (QP.mp he).1;obtain⟨k,_,c,h1,h2,_⟩:=fT el hj;exact⟨c,k,h1,h2⟩
  have same:t.sameMemory t.moves t.mask=some true:=by simp[sameMemory]
  refine wpAny_ite_split (λ_=>Qa (xm hx all ?_)) (λ_=>?_)
  all_goals try rw[Qn Qr]
  all_goals
   rw[QL hi];have ee:es[i]=(es[i].1,.ref c):=by rw[<-hc]
   rw[ee];dsimp only;refine Qa (Xf (TK.t_eq (kH prog w) hu hic hx ?_));refine Qa (Xx ho rfl hf ?_);dsimp only;by_cases ck:k=kx
   ·subst ck;rw[Qu rfl,Qs (show (true&&true)=true from rfl)];rcases q with⟨_,q⟩|⟨q,_⟩
    ·exact Qf q
    exact absurd (Qh hk) q
   rw[Qw ck,Qn (by simp),same];dsimp only;rw[Qs rfl,fY b0.up g2];dsimp only;rw[QL hi,ee];dsimp only;refine Qa (wpAny_isSame_ref_self (Qa (Qf ?_)));rw[Qs rfl];dsimp only;rw[Qn Qr];refine ih (n-(d+1)) (by omega) (itn (adv t.mask) (d+1) p) fu (some (itn (adv t.mask) (d+1) p)) rfl g5 (by omega) (by omega) g6 ?_;rcases q with⟨⟨d2,i2,h1,h2,h3⟩,q⟩|⟨q1,q2⟩
   ·refine .inl ⟨⟨d2-(d+1),i2,?_,?_,h3⟩,q⟩
    all_goals
     have:d<d2:=by
      rcases Nat.lt_trichotomy d2 d with z|z|z
      ·obtain⟨_,_,_,_,_,y⟩:=at_ i2 kx h3;exact absurd y (g7 d2 z i2 h2)
      ·subst z;have hi2:i2<t.place.toList.length:=(Qc.mp h2).1;have:=(List.getElem?_inj hi2 b0.up.nodup).mp (h2.trans g2.symm);subst this;rw[hk]at h3;exact absurd (QC h3) ck
      exact z
    ·omega
    rw[<-de,show d+1+(d2-(d+1))=d2 by omega];exact h2
   refine .inr ⟨q1,?_⟩;rw[<-de,show d+1+(n-(d+1))=n by omega];exact q2
 rename_i hmet
 have hmet:probe.go t (λi=>(es[i]?.map (·.1)).getD 0) ((bh prog w).hash kx) (10*turns t.mask) p=none:=by
  cases c:probe.go t (λi=>(es[i]?.map (·.1)).getD 0) ((bh prog w).hash kx) (10*turns t.mask) p with
  | none=>rfl
  | some m=>exact absurd c (hmet m)
 rcases go with⟨g1,_⟩|⟨d,i,_,_,_,g4,_⟩
 ·rw[g1]at hmet;cases hmet
 rw[g4]at hmet;cases hmet
end
theorem yS {m n j:Nat} {L:Nat->Prop} {p:Probe} (r:Rch m L p j) (hj:L j) (e:Emp m L n p):∃d,d<n/\(itn (adv m) d p).j=j:=by
 induction r generalizing n with
 | here p =>
  cases n with
  | zero=>exact absurd hj e
  | succ n=>exact⟨0,by omega,rfl⟩
 | step a _ ih =>
 cases n with
 | zero=>exact absurd a e
 | succ n=>obtain⟨d,h1,h2⟩:=ih hj e.2;exact⟨d+1,by omega,h2⟩
theorem uV {m:Nat}:∀(n:Nat) (p:Probe),p.j+p.more<m+1->(itn (adv m) n p).j<m+1
 | 0,p,h=>by show p.j<_;omega
 | n+1,p,h=>by
  refine uV n (adv m p) ?_;unfold adv
  split
  ·show p.j+1+(p.more-1)<_;omega
  have l:(leap m p.i p.perturb).1<m+1:=Nat.mod_lt _ (Nat.succ_pos _);have:=nH l;show (leap m p.i p.perturb).1+(runEnd m (leap m p.i p.perturb).1-(leap m p.i p.perturb).1)<_;omega
theorem paired_perm {α β:Type} {R:α->β->Prop} {as as':List α} (p:as'.Perm as):∀{bs:List β},Paired R as bs->∃bs',Paired R as' bs'/\bs'.Perm bs:=by
 induction p with
 | nil=>intro bs h;exact⟨bs,h,.refl _⟩
 | cons x _ ih=>intro bs h;cases h with
  | cons q t=>obtain⟨bs',h1,h2⟩:=ih t;exact⟨_::bs',.cons q h1,h2.cons _⟩
 | swap x y l=>intro bs h;cases h with
  | cons q t=>cases t with
   | cons q2 t2=>exact⟨_::_::_,.cons q2 (.cons q t2),.swap _ _ _⟩
 | trans _ _ ih1 ih2=>intro bs h;obtain⟨b2,h1,h2⟩:=ih2 h;obtain⟨b3,h3,h4⟩:=ih1 h1;exact⟨b3,h3,h4.trans h2⟩
theorem h_ {α β:Type} {R:α->β->Prop} {x:α} {y:β} (q:R x y):∀(p:Nat) {as:List α} {bs:List β},Paired R as bs->Paired R (as.take p++x::as.drop p) (bs.take p++y::bs.drop p)
 | 0,_,_,h=>by simpa using Paired.cons q h
 | p+1,_,_,.nil=>.cons q .nil
 | p+1,_,_,.cons r t=>.cons r (h_ q p t)
section
variable {prog:Program} {w:World}
def SetK (prog:Program) (w:World) (B:Addr->Prop) (h:Heap) (a:Addr) (ks:List av):Prop:=∃(es:Array (Int × Value)) (ep:Nat) (t:SetTable) (ks':List av),h.get? a=some (vj es ep t)/\Paired (El prog w B h) es.toList ks'/\ks'.Perm ks/\ks.Nodup/\Tb t (es.toList.map (·.1))/\es.size*5<t.mask*3/\LS.Led w t es.size
variable {A:Around} {E:A0} {s:Shared} {a b:Addr} {ks:List av} {k:av} {B:Addr->Prop}
theorem SetK.new {h:Heap} (g:h.get? a=some (LS.bare !(w.params.followText "set-order"))):SetK prog w B h a [] :=
 ⟨#[],0,_,[],g,.nil,.refl _,List.nodup_nil,⟨.inl rfl,rfl,rfl,List.Pairwise.nil,fun j h=>(nomatch h),fun q h=>(nomatch h)⟩,show 0*5<7*3 by decide,by
  unfold LS.Led
  cases e:w.params.followText "set-order" with
  | true=>exact .inl rfl
  | false=>exact .inr ⟨rfl,λz=>absurd rfl z⟩⟩
theorem zU {Q:Bool->Shared->Prop} (hu:A.units+1<cLine) (S:SetK prog w B s.heap a ks) (hk:TK.IsT (au prog w) s.heap k b) (tx:k.all byV2=false) (hB:B b) (fw:ks.length<76)
  (h:∀h' c ks2,Heap.SameBut a s.heap h'->SetK prog w B h' a ks2->ks2.length<=ks.length+1->(∀x,x∈ks2↔x∈ks\/x=k)->Q c { s with heap:=h' }):wpAny (model prog w) A (setAddHashed a (.ref b) ((bh prog w).hash k)) Q E s:=by
 obtain⟨es,ep,t,ks',ho,el,pk,nd,b0,fe,ld⟩:=S;have lk:es.size=ks.length:=by rw[<-Qm,Xk el,pk.length_eq]
 have m7:7<=t.mask:=by rcases b0.msk with e|e|e <;> omega
 have fl:es.size<=t.mask:=by omega
 have hf:t.fits es.size=true:=by have:=b0.fits (by rw[Qd,Qm];exact fl);rwa [Qd,Qm]at this
 have pz:t.place.toList.length=es.toList.length:=by rw[b0.len,Qd]
 obtain⟨e0,he0,ne0⟩:=qf (m:=t.mask) b0.up.nodup (by rw[pz,Qm];omega);obtain⟨n,hn,em⟩:=rC (L:=(·∈t.place.toList)) b0.msk ((bh prog w).hash k) he0 ne0;have t127:t.mask<=127:=by rcases b0.msk with e|e|e <;> omega
 unfold setAddHashed setAddHashedIn;refine Xf (Qa (Xx ho rfl hf ?_));dsimp only;rw[Qn (show ¬(byScan (.ref b) es=true) by simp[byScan,Value.scannable])];unfold setSearch;refine Qa (xz hu ho b0 fl el hk n (beg t.mask (bits ((bh prog w).hash k) % (t.mask+1),bits ((bh prog w).hash k))) 100000 none rfl em (by unfold turns at hn;omega) hn rfl ?_);by_cases c:k∈ks
 ·refine .inl ⟨?_,Qf (h s.heap false ks (Heap.SameBut.refl a s.heap) ⟨es,ep,t,ks',ho,el,pk,nd,b0,fe,ld⟩ (Nat.le_succ _) λx=>⟨.inl,λz=>z.elim id λe=>e▸c⟩)⟩;obtain⟨i,hi,ei⟩:=Xe (pk.mem_iff.mpr c);have ei:ks'[i]?=some k:=by rw[Qb hi,ei]
  have hi2:i<es.toList.length:=by rw[Xk el];exact hi
  have hi3:i<t.place.toList.length:=by omega
  obtain⟨k2,h1,_,_,_,h4,_⟩:=fT el (Qb hi2);rw[ei]at h1;cases h1
  have r:=b0.rch (t.place.toList[i],es.toList[i].1) (Qh (i:=i) (by
   rw[XU]
   exact⟨Qb hi3,by rw[Qq,Qb hi2];rfl⟩))
  dsimp only at r;rw[h4]at r;obtain⟨d,d1,d2⟩:=yS r (QW hi3) em;exact⟨d,i,d1,by rw[sn]at d2;rw[Qb hi3];exact congrArg some d2.symm,ei⟩
 refine .inr ⟨λz=>c (pk.mem_iff.mp z),?_⟩;obtain⟨r,nl⟩:=em.rch
 have jb:(itn (adv t.mask) n (beg t.mask (bits ((bh prog w).hash k) % (t.mask+1),bits ((bh prog w).hash k)))).j<t.mask+1:=uV n _ (by
  have l:bits ((bh prog w).hash k) % (t.mask+1)<t.mask+1:=Nat.mod_lt _ (Nat.succ_pos _);have:=nH l;show bits ((bh prog w).hash k) % (t.mask+1)+(runEnd t.mask (bits ((bh prog w).hash k) % (t.mask+1))-bits ((bh prog w).hash k) % (t.mask+1))<_
  omega)
 generalize (itn (adv t.mask) n (beg t.mask (bits ((bh prog w).hash k) % (t.mask+1),bits ((bh prog w).hash k)))).j=j at *;dsimp only;refine Qa (Xx ho rfl hf ?_);dsimp only;obtain⟨p,ep',p1,p2,p3,p4,b1⟩:=b0.put jb nl r;rw[<-ep'];generalize (t.put j).1=t1 at *;have lp:es.size=(es.toList.map (·.1)).length:=by simp
 rw[<-lp]at p1;have il:=mL es p ((bh prog w).hash k,Value.ref b) p1;generalize insertAt es p ((bh prog w).hash k,Value.ref b)=es1 at *;have ih1:es1.toList.map (·.1)=(es.toList.map (·.1)).take p++(bh prog w).hash k::(es.toList.map (·.1)).drop p:=by rw[il,QZ,Qx,List.map_take,List.map_drop]
 rw[<-ih1]at b1;have z1:es1.size=es.size+1:=by rw[<-Qm,il];simp only[Qi,Xm,QN,XB,Qm];omega
 have el1:Paired (El prog w B s.heap) es1.toList (ks'.take p++k::ks'.drop p):=by rw[il];exact h_ ⟨b,rfl,hk,rfl,hB⟩ p el
 have pk1:(ks'.take p++k::ks'.drop p).Perm (ks++[k]):=by
  refine List.perm_middle.trans ?_;rw[XX];exact(pk.cons k).trans (List.perm_append_singleton k ks).symm
 have nd1:(ks++[k]).Nodup:=XC.mpr ⟨nd,by simp,λx hx y hy e=>c (by simp at hy;rw[<-hy,<-e];exact hx)⟩;have mm:∀x,x∈ks++[k]↔x∈ks\/x=k:=λx=>by simp
 have fin:∀t2:SetTable,t2.mask=t.mask->Tb t2 (es1.toList.map (·.1))->LS.Led w t2 es1.size ->
   wpAny (model prog w) A (storeSet a es1 t2 >>= λ_=>if (!false&&t2.tooFull)=true then setRelay a (grown (es.size+1)) >>= λ_=>pure true else pure true) Q E s:=λt2 em b2 ld2=>by
  have fill2:t2.fill=es1.size:=by unfold SetTable.fill;have:=b2.len;rw[Qm,Qd,Qm]at this;rw[this,b2.dum];rfl
  refine Qa (wpAny_storeSet_of ho rfl ?_ (by rw[XQ];omega));have g1:(s.heap.update a (Obj.putSet es1 t2)).get? a=some (vj es1 (ep+1) t2):=Xg (Obj.putSet es1 t2) ho rfl;have sb1:=Xh s.heap a (Obj.putSet es1 t2);have elA:∀{h':Heap} {l:List (Int × Value)} {ks3:List av},Heap.SameBut a s.heap h'->Paired (El prog w B s.heap) l ks3->Paired (El prog w B h') l ks3:=λsb x=>Paired.mapT x λe k q=>q.at ho (λz=>absurd (Value.type.inj z) (by decide)) λb o hb e=>(sb.2 b hb).trans e;by_cases tf:t2.tooFull=true
  ·rw[tf,Qs (show (!false&&true)=true from rfl)];unfold tooFull at tf;rw[fill2,em]at tf;have tf:t.mask*3<=es1.size*5:=Xv tf
   obtain⟨m',hm',es',fw'⟩:∃m',Msk m'/\sizeAbove (grown (es.size+1))=m'+1/\es1.size*5<m'*3:=by
    rcases b0.msk with e|e|e
    ·have:es.size=4:=by omega
     rw[this];exact⟨31,.inr (.inl rfl),by decide +kernel,by omega⟩
    ·have:es.size=18:=by omega
     rw[this];exact⟨127,.inr (.inr rfl),by decide +kernel,by omega⟩
    omega
   have hf2:t2.fits es1.size=true:=by have:=b2.fits (by rw[Qd,Qm];omega);rwa [Qd,Qm]at this
   obtain⟨t3,order,l1,l2,l3,l4,l5,l6⟩:=zD hm' es1 (by omega) t2.finger (t2.movedTo m') t2.led t2.plain
   have rl:t2.relaid (es1.map (·.1)) (grown (es.size+1))=some (t3,order):=by
    unfold relaid;rw[es',Nat.add_sub_cancel];exact l1
   have z3:(order.filterMap (es1[·]?)).size=es1.size:=by rw[<-Qm,l5.length_eq,Qm]
   unfold setRelay;refine Qa (Qa (Xx (s:={ s with heap:=s.heap.update a (Obj.putSet es1 t2) }) g1 rfl hf2 ?_));dsimp only;have m127:m'<=127:=by rcases hm' with e|e|e <;> omega
   rw[Qn (show ¬sizeAbove (grown (es.size+1))>sizeLine by rw[es',XQ];omega),rl];have nz:((order.filterMap (es1[·]?)).size != es1.size)=false:=by rw[z3];simp
   generalize hS:storeSet=ST
   wp_walk
   subst hS;dsimp only;refine wpAny_storeSet_of (s:={ s with heap:=s.heap.update a (Obj.putSet es1 t2) }) g1 rfl ?_ (by rw[z3,XQ];omega);obtain⟨ks4,e4,p4'⟩:=paired_perm l5 el1;have sb2:=sb1.trans (Xh (s.heap.update a (Obj.putSet es1 t2)) a (Obj.putSet (order.filterMap (es1[·]?)) t3));refine Qf (h _ true (ks++[k]) sb2 ⟨_,ep+1+1,t3,ks4,Xg (Obj.putSet (order.filterMap (es1[·]?)) t3) g1 rfl,elA sb2 e4,p4'.trans pk1,nd1,l6,by rw[z3,l2];exact fw',?_⟩ (by simp) mm);rw[z3];exact ld2.imp id λz=>⟨l3.trans z.1,λy=>l4.trans (z.2 y)⟩
  rw[Bool.eq_false_iff.mpr tf,Qn (by simp)];refine Qf (h _ true (ks++[k]) sb1 ⟨es1,ep+1,t2,_,g1,elA sb1 el1,pk1,nd1,b2,?_,ld2⟩ (by simp) mm);unfold tooFull at tf;rw[fill2]at tf;have:=of_decide_eq_false (Bool.eq_false_iff.mpr tf);omega
 have tb_off:Tb { t1 with plain:=false } (es1.toList.map (·.1)):=⟨b1.msk,b1.dum,b1.len,b1.up,b1.bd,b1.rch⟩;have led2:∀t2:SetTable,t2.led=t.led->t2.plain=false->LS.Led w t2 es1.size:=λt2 e1 e2=>ld.imp id λz=>⟨e1.trans z.1,λ_=>e2⟩;by_cases pl:t1.plain=true
 ·rw[Qs pl];refine Qa (byv hk ?_);rw[tx];exact fin { t1 with plain:=false } p2 tb_off (led2 _ p3 rfl)
 rw[Qn pl];refine Qa (Qf ?_);exact fin t1 p2 b1 (led2 _ p3 (Bool.eq_false_iff.mpr pl))
end
end Ht
set_option maxHeartbeats 4000000
namespace LG
open PySem PySem.Spec PyProof.Rows LS
section
variable {prog:Program} {w:World} {A:Around} {E:A0} {s:Shared}
theorem call_set_gen {l:Addr} {its:Array Value} {G:Heap->Addr->Prop} {Q:A0} (hh:A.handled=none) (hl:s.heap.IsList l its)
  (loop:∀(I S:Addr) (s0:Shared) (R:Result->Shared->Prop),(∀b o,s.heap.get? b=some o->s0.heap.get? b=some o)->s.heap.objs.size<=S->s.heap.objs.size<=I->l≠I->S∉[I,l]->(s0.heap.IsListIter I l 0/\s0.heap.IsList l its)->s0.heap.get? S=some (bare !(w.params.followText "set-order")) ->
   (∀s',Moved [S,I] (λa b=>b=a) s0 s'->G s'.heap S->R (.ok (.ret .none)) s')->codeAny (model prog w) A.in1.in1 (.builtin "set.update.loop" ⟨[.ref S,.ref I],[]⟩) R s0)
  (h:∀(h1:Heap) (tk:Nat),G h1 s.heap.objs.size->(∀b o,s.heap.get? b=some o->h1.get? b=some o)->Q (.ref s.heap.objs.size) { s with heap:=h1,toks:=tk }) :
  wpAny (model prog w) A (call (.type "set") [.ref l]) Q E s:=by
 obtain⟨cl,tl,mro⟩:=F.called_set.mro;have y1:=F.called_set.made;have y2:=F.called_set.sub;refine wpAny_call (codeAny_of_tree ?_);show wpAny _ _ (callAny (.type "set") ⟨[.ref l],[]⟩) _ _ _;refine Qf ⟨Code.quiet_builtin _ (by decide +kernel),X3 F.entry_type_call ?_⟩;rw[Around.under_plain (weight_type_call_type "set" [.ref l] []) rfl];have y3:=F.called_set.notType;have y4:=F.called_set.canCreate;have y5:=F.typeCall_set_1 (.ref l)
 repeat (any_goals (first|assumption|wp_step))
 refine codeAny_mono (uM (.ref l) (E:=E) (Q₁:=λv s1=>∃led:Bool,led=!(w.params.followText "set-order")/\v=.ref s.heap.objs.size/\s1={ s with heap:=s.heap.push (bare led) }) ⟨_,rfl,rfl,rfl⟩) λr s1 hr=>?_
 cases r with
 | error e=>exact hr
 | ok fl =>
 cases fl with
 | ret obj =>
  obtain⟨led,hled,rfl,rfl⟩:=hr;have hS:(s.heap.push (bare led)).get? s.heap.objs.size=some (bare led):=Qy _ rfl;have hT:Shared.TypeIs { s with heap:=s.heap.push (bare led) } (.ref s.heap.objs.size) "set" := ⟨_,hS,rfl⟩;have y6:=F.called_set.init.lookup;have y7:=F.called_set.init.bind (.ref s.heap.objs.size)
  repeat (any_goals (first|assumption|wp_step))
  refine codeAny_mono (codeAny_call_builtin (R:=wants (λv s2=>v=.none/\∃h1 tk,s2={ s with heap:=h1,toks:=tk }/\G h1 s.heap.objs.size/\∀b o,s.heap.get? b=some o->h1.get? b=some o) E) F.called_set.init.plain F.entry_set_init (check_set_init_1 hT ?_)) λr2 s2 hr2=>?_
  ·obtain⟨ol,hol,hcl,nl,hdl⟩:=hl;obtain⟨ocls,odict,odata,oslots⟩:=ol;simp only at hcl hdl;subst hcl;subst hdl;have hol1:(s.heap.push (bare led)).get? l=some { cls:=.type "list", dict:=odict,data:=.seq its nl,slots:=oslots }:=Qe _ hol;have y8:=F.sub_list_set;have y9:=F.sub_list_frozenset;have y0:(Value.type "list" == Value.type "dict")=false:=by decide
   have hl1:(s.heap.push (bare led)).IsList l its:=⟨_,hol1,rfl,nl,rfl⟩;unfold Builtin.«set.__init__» noKeywords Builtin.Frozenset.updateFrom;generalize hPI:pyIter=PI
   wp_walk
   subst hPI;refine wpAny_pyIter_list hl1 ?_;refine Qa (wpAny_runValue ?_);have lS:l<s.heap.objs.size:=Qt hol
   have nI:l≠(s.heap.push (bare led)).objs.size:=by
    rw[Xy];exact QF (Nat.lt_succ_of_lt lS)
   have nF:s.heap.objs.size∉[(s.heap.push (bare led)).objs.size,l]:=by
    rw[Xy];simp only[Qj,Qv,QE,Xi,not_or];exact⟨QF (Nat.lt_succ_self _),Nat.ne_of_gt lS⟩
   refine loop _ _ _ _ (λb o e=>Qe _ (Qe _ e)) (Qg _) (by rw[Xy];exact Nat.le_succ _) nI nF ⟨⟨_,Qy _ rfl,rfl,rfl⟩,(hl1.push _)⟩ ?_ λs3 mv q=>?_
   ·have e:((s.heap.push (bare led)).push { cls:=.type "list_iterator", data:=.fields #[.ref l,.int 0 0] }).get? s.heap.objs.size=some (bare led):=Qe _ hS;rw[e,hled]
   obtain⟨h3,g3,d3,tk3,os3⟩:=s3;obtain rfl:g3=s.gens:=mv.gens;obtain rfl:d3=s.drawn:=mv.drawn;obtain rfl:os3=s.os:=mv.os;show wpAny _ _ _ _ _ _;refine Qf ?_;show wpAny _ _ (ret Value.none) _ _ _;refine Qf ⟨rfl,h3,tk3,rfl,q,λb o e=>?_⟩;have lb:=Qt e;have z1:b≠s.heap.objs.size:=QF lb
   have z2:b≠(s.heap.push (bare led)).objs.size:=by
    rw[Xy];exact QF (Nat.lt_succ_of_lt lb)
   exact mv.heap b o (by simp only[Qj,Qv,QE,Xi,not_or];exact⟨z1,z2⟩) (Qe _ (Qe _ e))
  cases r2 with
  | error e=>exact hr2
  | ok fl2 =>
  cases fl2 with
  | ret r =>
   obtain⟨rfl,h1,tk,rfl,q,k⟩:=hr2
   repeat (any_goals (first|assumption|wp_step))
   exact h _ _ q k
  | _=>exact hr2.elim
 | _=>exact hr.elim
end
end LG
set_option maxHeartbeats 400000
namespace LS
open PySem PySem.Spec PyProof.Rows
theorem fq {α:Type}:∀{l:List α} {i:Nat} (h:i<l.length),(l[i]::l.eraseIdx i).Perm l
 | a::l,0,_=>.refl _
 | a::l,i+1,h=>by
  have hi:i<l.length:=by simpa using h
  have q:=fq (l:=l) (i:=i) hi;show (l[i]::a::l.eraseIdx i).Perm (a::l);exact(List.Perm.swap _ _ _).trans (q.cons a)
theorem pK {α:Type} (next:Nat->Nat):∀(fuel k:Nat) (left:List α) (out:Array α),left.length=fuel->(pickOrder.go next fuel k left out).toList.Perm (out.toList++left)
 | 0,k,left,out,h=>by
  obtain rfl:left=[]:=List.length_eq_zero_iff.mp h;simp[pickOrder.go]
 | fuel+1,k,left,out,h=>by
  have lt:next k % left.length<left.length:=Nat.mod_lt _ (by omega);have e:left[next k % left.length]?=some left[next k % left.length]:=Qb lt;unfold pickOrder.go;rw[e];refine(pK next fuel (k+1) _ _ (by rw[List.length_eraseIdx_of_lt lt];omega)).trans ?_;rw[Array.toList_push,XN];exact List.Perm.append_left _ (fq lt)
theorem pick_perm {α:Type} (next:Nat->Nat) (xs:Array α):(pickOrder next xs).toList.Perm xs.toList:=by
 have:=pK next xs.size 0 xs.toList #[] (by simp);unfold pickOrder;simpa using this
section
variable {prog:Program} {w:World} {A:Around} {E:A0} {s:Shared} {a it:Addr} {es:Array (Int × Value)} {ep:Nat} {t:SetTable} {i:Nat}
theorem jX {src:Source} {n:Nat} {Q:Nat->Shared->Prop} (hn:n≠0) (h:∀i d,i<n->Q i { s with drawn:=d }):wpAny (model prog w) A (choose src n) Q E s:=λΓ p hΓ=>by
 show Sem.wp (model prog w) Γ (.choose src n .pure) _ _ p s;rw[Sem.wp_choose];refine⟨hn,?_⟩;rw[Sem.wp_pure];exact h _ _ (Nat.mod_lt _ (Nat.pos_of_ne_zero hn))
theorem dO {α:Type}:∀(n:Nat) (xs:List α) (s:Shared) (Q:List α->Shared->Prop),xs.length=n->(∀ys d,ys.Perm xs->Q ys { s with drawn:=d })->wpAny (model prog w) A (drawOrder n xs) Q E s
 | 0,xs,s,Q,h,q=>by
  obtain rfl:xs=[]:=List.length_eq_zero_iff.mp h;exact Qf (q [] s.drawn .nil)
 | n+1,[],s,Q,h,q=>by cases h
 | n+1,x::xs,s,Q,h,q=>by
  unfold drawOrder;refine Qa (jX (by simp) λi d hi=>?_);rw[Qb hi];dsimp only;refine Qa (dO n _ _ _ (by rw[List.length_eraseIdx_of_lt hi];simp at h ⊢;omega) λys d2 pm=>Qf (q _ d2 ?_));exact(List.Perm.cons _ pm).trans (fq hi)
variable {Q:Option (Value × Nat)->Shared->Prop}
theorem jA {slot:Nat} (ht:w.params.followText "set-order" = true) (hs:df s.heap a es ep t) (h:Q (((pickOrder (w.params.setOrder a ep) es)[i]?).map λe=>(e.2,slot)) s):wpAny (model prog w) A (setNext a slot i ep) Q E s:=by
 obtain⟨os,hos,hds,_,hf⟩:=id hs;unfold setNext setsByText;refine Qa (Xx hos hds hf ?_);dsimp only;refine Qa (Qa (wpAny_askSetting (Qf ?_)));rw[Qs (show (Setting.params ⟨(model prog w).prog,(model prog w).w.params⟩).followText "set-order" = true from ht),Qn (by simp)];unfold setWalk setsByText;refine Qa (Qa (Xx hos hds hf ?_));dsimp only;refine Qa (Qa (wpAny_askSetting (Qf ?_)));rw[Qs (show (Setting.params ⟨(model prog w).prog,(model prog w).w.params⟩).followText "set-order" = true from ht)];refine Qa (wpAny_askSetting (Qf ?_));exact Qf h
theorem ml {slot:Nat} (ht:w.params.followText "set-order" = false) (hs:df s.heap a es ep t) (h1:es.size<=1) (hl:t.led=true)
  (h:Q (match es[SetTable.below t.place slot]?,t.place[SetTable.below t.place slot]? with|some (_,x),some j=>some (x,j+1)|_,_=>none) s):wpAny (model prog w) A (setNext a slot i ep) Q E s:=by
 obtain⟨os,hos,hds,_,hf⟩:=id hs;unfold setNext setsByText;refine Qa (Xx hos hds hf ?_);dsimp only;refine Qa (Qa (wpAny_askSetting (Qf ?_)));rw[Qn (show ¬(Setting.params ⟨(model prog w).prog,(model prog w).w.params⟩).followText "set-order" = true by rw[show (Setting.params ⟨(model prog w).prog,(model prog w).w.params⟩).followText "set-order" = false from ht];exact Qr)];refine wpAny_ite_split (λhab=>?_) λ_=>?_
 ·have hab:(!t.plain&&decide (es.size>1))=true:=hab;simp at hab;omega
 refine Qa ?_;show wpAny _ _ (if (!t.led&&!es.isEmpty)=true then unsupported "set:maker-not-led" else pure ()) _ _ _;rw[Qn (by rw[hl];simp)];exact Qf (Qf h)
theorem nk (hh:A.handled=none) (ht:w.params.followText "set-order" = true) (I:Addr) (ne:a≠I):Walks prog w A I [I,a] [I] es.size (λi v=>∃e,(pickOrder (w.params.setOrder a ep) es).toList[i]?=some e/\v=e.2) (λi h=>eD h I a (.int 0 0) i es.size ep/\df h a es ep t) where
 sub:=λb hb=>by simp at hb;simp[hb]
 frame:=λ_ _ _ st hk=>⟨st.1.at λo e=>hk I (by simp) o e,st.2.at λo e=>hk a (by simp) o e⟩
 item:=λi s Q E hi st hQ=>by
  have z:(pickOrder (w.params.setOrder a ep) es).size=es.size:=by simpa using(pick_perm (w.params.setOrder a ep) es).length_eq
  obtain⟨e,he⟩:∃e,(pickOrder (w.params.setOrder a ep) es)[i]?=some e:=⟨_,QL (by rw[z];exact hi)⟩;refine jB (slot:=0) (next:=0) (x:=e.2) st.1 st.2 (λQ E q=>jA ht st.2 (by rw[he];exact q)) λh' hit' hs'=>?_;exact hQ _ h' s.toks ⟨e,by rw[Q7];exact he,rfl⟩ ⟨hit',st.2.at λo e=>hs'.extBut a o ne e⟩ λb o hb e=>hs'.extBut b o (λh=>hb (by simp[h])) e
 done:=λs Q E st hQ=>by
  have z:(pickOrder (w.params.setOrder a ep) es).size=es.size:=by simpa using(pick_perm (w.params.setOrder a ep) es).length_eq
  exact jC (slot:=0) hh st.1 st.2 (λQ E q=>jA ht st.2 (by rw[Array.getElem?_eq_none (by rw[z];exact Qg _)];exact q)) λh' he'=>hQ h' s.toks λb o hb e=>he' b o (λh=>hb (by simp[h])) e
 self:=λ_ _ _ _ st hQ=>kQ st.1 hQ
theorem lx (hh:A.handled=none) (I tp:Addr) (pl:List Nat) (hp:pl.Perm (List.range es.size)) (ne:a≠I) (nt:tp≠I):Walks prog w A I [I,a,tp] [I] es.size (λi v=>∃e,(pl.filterMap λj=>es[j]?)[i]?=some e/\v=e.2)
  (λi h=>eD h I a (.ref tp) i es.size ep/\df h a es ep t/\h.get? tp=some { cls:=.type "tuple", data:=.seq (pl.map λ(i:Nat)=>rawInt i).toArray }) where
 sub:=λb hb=>by simp at hb;simp[hb]
 frame:=λ_ _ _ st hk=>⟨st.1.at λo e=>hk I (by simp) o e,st.2.1.at λo e=>hk a (by simp) o e,hk tp (by simp) _ st.2.2⟩
 item:=λi s Q E hi st hQ=>by
  have pz:pl.length=es.size:=by simpa using hp.length_eq
  have lt:i<pl.length:=by omega
  have all:∀j∈pl,∃e,es[j]?=some e:=λj hj=>⟨_,QL (by simpa using hp.mem_iff.mp hj)⟩;obtain⟨e,he⟩:=all pl[i] (QW lt)
  have fm:∀(l:List Nat) (i:Nat) (h:i<l.length),(∀j∈l,∃e,es[j]?=some e)->(l.filterMap λj=>es[j]?)[i]?=es[l[i]]?:=by
   intro l
   induction l with
   | nil=>intro i h;simp at h
   | cons x l ih =>
   intro i h al;obtain⟨e,he⟩:=al x Xp;rw[List.filterMap_cons_some he]
   cases i with
   | zero=>rw[List.getElem?_cons_zero];exact he.symm
   | succ i=>rw[List.getElem?_cons_succ];exact ih i (by simpa using h) λj hj=>al j (Qp _ hj)
  refine oD (p:=pl[i]) st.1 st.2.1 st.2.2 (Qb lt) he λh' hit' hs'=>?_;exact hQ _ h' s.toks ⟨e,by rw[fm pl i lt all];exact he,rfl⟩ ⟨hit',st.2.1.at λo e=>hs'.extBut a o ne e,hs'.extBut tp _ nt st.2.2⟩ λb o hb e=>hs'.extBut b o (λh=>hb (by simp[h])) e
 done:=λs Q E st hQ=>by
  have pz:pl.length=es.size:=by simpa using hp.length_eq
  exact oE hh st.1 st.2.1 st.2.2 (QU (by omega)) λh' he'=>hQ h' s.toks λb o hb e=>he' b o (λh=>hb (by simp[h])) e
 self:=λ_ _ _ _ st hQ=>kQ st.1 hQ
theorem jU (j k:Nat):SetTable.below #[j] k=if j<k then 1 else 0:=by
 unfold SetTable.below;simp[SetTable.below.go]
theorem qz (hh:A.handled=none) (ht:w.params.followText "set-order" = false) (h1:es.size<=1) (hl:t.led=true) (I:Addr) (ne:a≠I):Walks prog w A I [I,a] [I] es.size (λi v=>∃e,es.toList[i]?=some e/\v=e.2)
  (λi h=>(∃slot:Nat,eD h I a (.int slot 0) i es.size ep/\(i=0->slot=0)/\(i=1->∃j,t.place=#[j]/\slot=j+1))/\df h a es ep t) where
 sub:=λb hb=>by simp at hb;simp[hb]
 frame:=λ_ _ _ st hk=>let ⟨⟨sl,x,y⟩,z⟩:=st;⟨⟨sl,x.at λo e=>hk I (by simp) o e,y⟩,z.at λo e=>hk a (by simp) o e⟩
 item:=λi s Q E hi st hQ=>by
  obtain⟨⟨sl,x,y,_⟩,z⟩:=st;obtain rfl:i=0:=by omega
  obtain rfl:=y rfl;have e1:es.size=1:=by omega
  obtain⟨os,hos,hds,_,hf⟩:=id z;have pz:t.place.size=1:=by simp[SetTable.fits]at hf;omega
  obtain⟨j,hj⟩:=Array.size_eq_one_iff.mp pz;obtain⟨e,he⟩:=Array.size_eq_one_iff.mp e1;refine jB (slot:=0) (next:=j+1) (x:=e.2) x z (λQ E q=>ml ht z h1 hl (by rw[hj,jU];simp[he];exact q)) λh' hit' hs'=>?_;exact hQ _ h' s.toks ⟨e,by rw[he];rfl,rfl⟩ ⟨⟨j+1,hit',λq=>by omega,λ_=>⟨j,hj,rfl⟩⟩,z.at λo e=>hs'.extBut a o ne e⟩ λb o hb e=>hs'.extBut b o (λh=>hb (by simp[h])) e
 done:=λs Q E st hQ=>by
  obtain⟨⟨sl,x,y1,y2⟩,z⟩:=st;refine jC hh x z (λQ E q=>ml ht z h1 hl ?_) λh' he'=>hQ h' s.toks λb o hb e=>he' b o (λh=>hb (by simp[h])) e;by_cases e1:es.size=1
  ·obtain⟨j,hj,rfl⟩:=y2 e1;rw[hj,jU];simpa[e1] using q
  have e0:es=#[]:=by simpa using(show es.size=0 by omega)
  subst e0;simpa using q
 self:=λ_ _ _ _ st hQ=>kQ st.1.choose_spec.1 hQ
end
end LS
namespace LG
open PySem PySem.Spec PyProof.Rows PySem.Calls LS
section
variable {prog:Program} {w:World} {A:Around} {E:A0} {s:Shared} {a:Addr}
variable {es:Array (Int × Value)}
theorem sI {o:Obj} {ep:Nat} {t:SetTable} {Q:A0} (hh:A.handled=none) (ho:s.heap.get? a=some o) (hc:o.cls=.type "set") (hd:o.data=.set es ep t) (hb:es.size<scanBound) (hf:t.fits es.size=true) (hl:Led w t es.size)
  (h:∀h' d I (od:List (Int × Value)) fp St,od.Perm es.toList->(∀b o,s.heap.get? b=some o->h'.get? b=some o)->s.heap.objs.size<=I->(∀b∈fp,b=a\/s.heap.objs.size<=b)->Walks prog w A I fp [I] es.size (λi v=>∃e,od[i]?=some e/\v=e.2) St->St 0 h'->Q (.ref I) { s with heap:=h',drawn:=d }) :
  wpAny (model prog w) A (pyIter (.ref a)) Q E s:=by
 have hT:s.TypeIs (.ref a) "set" := ⟨o,ho,hc⟩;have hlt:=Qt ho;refine wpAny_pyIter_slot hT F.slot_set_iter (Q9 F.slot_set_iter hT iI ?_ (F.args_set_iter_1 _));unfold Builtin.«frozenset.__iter__» Builtin.Frozenset.slot0 slotArgs;simp only[List.isEmpty_nil,XZ,QH,↓reduceIte,bind_assoc,List.length_nil,bne_self_eq_false];unfold Builtin.Frozenset.addrOf Builtin.Frozenset.sizeOf;refine Qa (Qf ?_)
 try dsimp only
 refine Qa (Qf ?_);refine Qa (Qa (wpAny_setEntries_of ho hd hf (Qf ?_)));unfold setDrawn setsByText;refine Qa (Qa (Xx ho hd hf ?_));dsimp only;refine Qa (Qa (wpAny_askSetting (Qf ?_)));show wpAny _ _ (pure (!(w.params.followText "set-order")&&(!t.plain&&decide (es.size>1)))) _ _ _;refine Qf ?_;have hs0:df s.heap a es ep t:=⟨o,ho,hd,hc,hf⟩
 have plainway:∀(oI:Obj),oI={ cls:=.type "set_iterator", data:=.fields #[.int 0 0,.int 0 0,.ref a,.int es.size 0,.int ep 0] }->eD (s.heap.push oI) s.heap.objs.size a (.int ((0:Nat):Int) 0) 0 es.size ep/\df (s.heap.push oI) a es ep t:=λoI e=>by
  subst e;exact⟨⟨_,Qy _ rfl,rfl,rfl⟩,hs0.at λo e=>Qe _ e⟩
 refine wpAny_ite_split (λhab=>?_) λhab=>?_
 ·simp only[Xr,Bool.not_eq_true',decide_eq_true_eq]at hab;refine Qa (dO es.size (List.range es.size) s _ (by simp) λpl d pm=>?_);refine Qa (wpAny_newTuple ?_ (by rw[Qd,pm.length_eq,Q3];exact fits_of_scanBound hb));unfold setEpoch;have ho1:(s.heap.push { cls:=.type "tuple", data:=.seq (pl.map λ(i:Nat)=>rawInt i).toArray }).get? a=some o:=Qe _ ho;refine Qa (Qa (Xx (s:={ s with heap:=s.heap.push { cls:=.type "tuple", data:=.seq (pl.map λ(i:Nat)=>rawInt i).toArray },drawn:=d }) ho1 hd hf (Qf ?_)));unfold newFields;refine Qa (XM ?_ (by size_fits));refine Qf ⟨_,rfl, "set_iterator", _,⟨_,Qy _ rfl,rfl⟩,cu.lookup,?_⟩;have ne:a≠(s.heap.push { cls:=.type "tuple", data:=.seq (pl.map λ(i:Nat)=>rawInt i).toArray }).objs.size:=by rw[Xy];exact QF (Nat.lt_succ_of_lt hlt)
  have nt:s.heap.objs.size≠(s.heap.push { cls:=.type "tuple", data:=.seq (pl.map λ(i:Nat)=>rawInt i).toArray }).objs.size:=by rw[Xy];exact QF (Nat.lt_succ_self _)
  refine h _ _ _ (pl.filterMap λj=>es[j]?) _ _ ((pm.filterMap _).trans (by rw[filterMap_getElem?_range])) (λb o e=>Qe _ (Qe _ e)) (by rw[Xy];exact Nat.le_succ _) (λb hb=>?_) (lx (ep:=ep) (t:=t) hh _ _ pl pm ne nt) ?_
  ·simp only[Qj,QE,Xi]at hb;rcases hb with rfl|rfl|rfl
   ·exact .inr (by rw[Xy];exact Nat.le_succ _)
   ·exact .inl rfl
   exact .inr (Qg _)
  exact⟨⟨_,Qy _ rfl,rfl,rfl⟩,hs0.at λo e=>Qe _ (Qe _ e),Qe _ (Qy _ rfl)⟩
 refine Qa (Qf ?_);unfold setEpoch;refine Qa (Qa (Xx ho hd hf (Qf ?_)));unfold newFields;refine Qa (XM ?_ (by size_fits));refine Qf ⟨_,rfl, "set_iterator", _,⟨_,Qy _ rfl,rfl⟩,cu.lookup,?_⟩;obtain⟨i0,s0⟩:=plainway _ rfl;have ne:a≠s.heap.objs.size:=QF hlt
 have fpok:∀b∈[s.heap.objs.size,a],b=a\/s.heap.objs.size<=b:=λb hb=>by
  simp only[Qj,QE,Xi]at hb;rcases hb with rfl|rfl
  ·exact .inr (Qg _)
  exact .inl rfl
 cases ht:w.params.followText "set-order" with
 | true=>exact h _ s.drawn _ _ _ _ (pick_perm (w.params.setOrder a ep) es) (λb o e=>Qe _ e) (Qg _) fpok (nk (ep:=ep) (t:=t) hh ht _ ne) ⟨i0,s0⟩
 | false =>
 rcases hl with z|⟨z1,z2⟩
 ·rw[ht]at z;cases z
 have h1:es.size<=1:=by
  rw[ht]at hab;by_cases e0:es.size=0
  ·omega
  rw[z2 e0]at hab;simp at hab;omega
 exact h _ s.drawn _ _ _ _ (.refl _) (λb o e=>Qe _ e) (Qg _) fpok (qz (ep:=ep) hh ht h1 z1 _ ne) ⟨⟨0,i0,λ_=>rfl,λz=>by cases z⟩,s0⟩
theorem uv {r:Addr} {Q:Bool->Shared->Prop} (hT:s.TypeIs (.ref r) "set") (h:Q false s):wpAny (model prog w) A (Builtin.List.listLengthHint (.ref r)) Q E s:=by
 unfold Builtin.List.listLengthHint;refine Qa (wpAny_specialOf hT PySem.F.slot_set_len.lookup ?_);generalize hid:("set.__len__" : String)=id0
 wp_delta
 rw[show splitId id0=some ("set", "__len__") from by subst hid;decide +kernel];subst hid;refine Qa (wpAny_isInstance (T := "set") (b:=true) hT (by rw[isSubtype_type];kernel_rfl) ?_);refine wpAny_ite_split (λhab=>absurd hab (by decide)) (λ_=>?_);refine wpAny_ite_split (λ_=>?_) (λhab=>absurd (by decide +kernel) hab);refine Qa (wpAny_typeOf hT ?_);exact Qf h
theorem collect_set {o:Obj} {ep:Nat} {t:SetTable} {R:List Value->Shared->Prop} (hh:A.handled=none) (ho:s.heap.get? a=some o) (hc:o.cls=.type "set") (hd:o.data=.set es ep t) (hb:es.size<scanBound) (hf:t.fits es.size=true) (hl:Led w t es.size)
  (h:∀g tk d (od:List (Int × Value)),od.Perm es.toList->(∀b o,s.heap.get? b=some o->g.get? b=some o)->s.heap.objs.size<=g.objs.size->R (od.map (·.2)) { s with heap:=g,toks:=tk,drawn:=d }):wpAny (model prog w) A (collect (.ref a)) R E s:=by
 have hlt:=Qt ho;have nz:es.size<=sizeLine:=fits_of_scanBound hb;unfold collect;refine Qa (wpAny_runValue (X3 entry_proto_collect' ?_));rw[XD PySem.F.plain_proto_collect _];refine Qa (XM (Qf ⟨plainId_quiet PySem.F.plain_list_iadd _,X3 entry_list_iadd' ?_⟩));rw[XD PySem.F.plain_list_iadd _];show wpAny _ _ (Builtin.List.listExtendWith (.ref s.heap.objs.size) (.ref a) (.ref s.heap.objs.size)) _ _ { s with heap:=s.heap.push { cls:=.type "list", data:=.seq ([]:List Value).toArray } };generalize hL:({ cls:=.type "list", data:=.seq ([]:List Value).toArray }:Obj)=L;have ho1:(s.heap.push L).get? a=some o:=Qe _ ho;have hS:(s.heap.push L).get? s.heap.objs.size=some L:=Qy _ (by rw[<-hL];rfl);have nS:s.heap.objs.size≠a:=Nat.ne_of_gt hlt;unfold Builtin.List.listExtendWith;refine Qa (wpAny_typeOf (T := "set") (s:={ s with heap:=s.heap.push L }) ⟨o,ho1,hc⟩ ?_);have h1:Builtin.List.listSameRef (.ref s.heap.objs.size) (.ref a)=false:=by simp[Builtin.List.listSameRef,nS]
 have h2:(Value.type "set" == Value.type "list")=false:=by decide
 have h3:(Value.type "set" == Value.type "tuple")=false:=by decide
 simp only[h1,h2,h3,Bool.or_false,QH,XA];refine Qa (sI (A:=A.in1) (s:={ s with heap:=s.heap.push L }) hh ho1 hc hd hb hf hl λh' d I od fp St om k hI hfp W st=>?_);have k':∀b o,s.heap.get? b=some o->h'.get? b=some o:=λb o e=>k b o (Qe _ e);have szL:(s.heap.push L).objs.size=s.heap.objs.size+1:=Xy ..;have nI:s.heap.objs.size≠I:=by have:=hI;simp only[szL]at this;omega
 have hI':s.heap.objs.size<=I:=by simp only[szL]at hI;omega
 have nF:s.heap.objs.size∉fp:=λz=>by
  rcases hfp _ z with y|y
  ·exact nS y
  simp only[szL]at y;omega
 have hS1:h'.get? s.heap.objs.size=some L:=k _ _ hS;refine Qa (Xf (uv (s:={ s with heap:=h',drawn:=d }) ⟨o,k' a o ho,hc⟩ ?_))
 have key:∀(g:Heap) (c₁ tk:Nat),St 0 g->(∀b o,b≠s.heap.objs.size->h'.get? b=some o->g.get? b=some o)->g.get? s.heap.objs.size=some { cls:=.type "list", data:=.seq #[] c₁ } ->
   codeAny (model prog w) A (.builtin "list.extend.loop" ⟨[.ref s.heap.objs.size,.ref I,.ref s.heap.objs.size],[]⟩) (λr s'=>∃(g:Heap) (tk:Nat) (acc:Array Value) (c:Nat),r=.ok (.ret (.ref s.heap.objs.size))/\s'={ s with heap:=g,toks:=tk,drawn:=d } /\
   (∀b o,s.heap.get? b=some o->g.get? b=some o)/\g.get? s.heap.objs.size=some { cls:=.type "list", dict:=none,data:=.seq acc c,slots:=#[] }/\PySem.ItemsOf (λi v=>∃e,od[i]?=some e/\v=e.2) acc es.size) { s with heap:=g,toks:=tk,drawn:=d }:=by
  intro g c₁ tk hst hk hS₁;refine codeAny_extend_loopS W.toS nz _ nF _ es.size 0 _ #[] c₁ rfl (QT _) hst hS₁ (ItemsOf.nil _) λs' acc' c' hm hS' hacc=>?_;rw[Moved.eq_with hm];refine⟨s'.heap,s'.toks,acc',c',rfl,rfl,λb o e=>hm.heap b o (λhmem=>?_) (hk b o (QF (Qt e)) (k' b o e)),hS',hacc⟩;rcases Qj.mp hmem with e'|hmem
  ·exact absurd (Qt e) (by rw[e'];exact X7 _)
  exact absurd (Qt e) (by rw[Qv.mp hmem];exact Nat.not_lt.mpr hI')
 have all:∀(acc:Array Value),PySem.ItemsOf (λi v=>∃e,od[i]?=some e/\v=e.2) acc es.size->acc.toList=od.map (·.2):=λacc ⟨z1,z2⟩=>by
  refine XW λi=>?_;rw[Q7,Qq];by_cases hi:i<es.size
  ·obtain⟨e,e1,e2⟩:=z2 i acc[i] (QL (by omega));rw[QL (by omega),e1,e2];rfl
  rw[Array.getElem?_eq_none (by omega),QU (by rw[om.length_eq,Qm];omega)];rfl
 subst hL;refine wpAny_ite_split (λ_=>?_) (λ_=>Qf ⟨plainId_quiet PySem.F.plain_extend_loop _,codeAny_mono (key h' 0 s.toks st (λb o _ e=>e) hS1) λr s' y=>?_⟩)
 ·refine Qa (wpAny_rule ?_);refine Qa ?_;show wpAny _ _ (updateSeq s.heap.objs.size (·.push .none) >>= λ_=>updateSeq s.heap.objs.size (·.pop)) _ _ _;refine Qa (wpAny_updateSeq hS1 rfl ?_);have hS2:=Xg (Obj.mapSeq (·.push Value.none)) hS1 rfl;refine wpAny_updateSeq (hz:=by seq_fits) hS2 rfl ?_;have hS3:=Xg (Obj.mapSeq (·.pop)) hS2 rfl;refine Qf ⟨plainId_quiet PySem.F.plain_extend_loop _,codeAny_mono (key _ _ s.toks ?_ (λb o hb e=>?_) hS3) λr s' y=>?_⟩
  ·refine W.frame 0 _ _ st λb hb o e=>?_;have hbS:b≠s.heap.objs.size:=λh=>nF (h▸hb);exact(Xj _ _ (Ne.symm hbS)).trans ((Xj _ _ (Ne.symm hbS)).trans e)
  ·exact(Xj _ _ (Ne.symm hb)).trans ((Xj _ _ (Ne.symm hb)).trans e)
  obtain⟨g,tk,acc,c,rfl,rfl,kk,at',it⟩:=y;exact Qa (wpAny_load at' (Qf (by rw[all acc it];exact h g tk d od om kk (XT (Qt at')))))
 obtain⟨g,tk,acc,c,rfl,rfl,kk,at',it⟩:=y;exact Qa (wpAny_load at' (Qf (by rw[all acc it];exact h g tk d od om kk (XT (Qt at')))))
end
end LG
set_option maxHeartbeats 1000000
namespace Ht
open PySem PySem.Spec PyProof.Rows L2 LS
section
variable {B:Addr->Prop} {prog:Program} {w:World} {A:Around} {E:A0} {s:Shared}
def Tps (h0 h:Heap):Prop:=∀b o,h0.get? b=some o->o.cls=.type "tuple" -> h.get? b=some o
theorem sH {R:Result->Shared->Prop} {I S l:Addr} {its:Array Value} {h0:Heap} {kf:Nat->av} (hh:A.handled=none) (hu:A.units+3<cLine) (nI:l≠I) (nS:S∉[I,l]) (new:∀b∈[S,I],h0.get? b=none)
  (hg:∀i v,its[i]?=some v->∃b,v=.ref b/\TK.IsT (au prog w) h0 (kf i) b/\(kf i).all byV2=false/\B b) (few:∀us:List av,us.Nodup->(∀x∈us,∃j,j<its.size/\kf j=x)->us.length<76) :
  ∀(m i:Nat) (s:Shared) (ks:List av),its.size-i=m->i<=its.size->(s.heap.IsListIter I l i/\s.heap.IsList l its)->Tps h0 s.heap->SetK prog w B s.heap S ks->(∀x,x∈ks↔∃j,j<i/\kf j=x) ->
   (∀s' ks',Moved [S,I] (λa b=>b=a) s s'->SetK prog w B s'.heap S ks'->(∀x,x∈ks'↔∃j,j<its.size/\kf j=x)->R (.ok (.ret .none)) s') ->
   codeAny (model prog w) A (.builtin "set.update.loop" ⟨[.ref S,.ref I],[]⟩) R s:=by
 have W:=(Walks.list (prog:=prog) (w:=w) (show A.in1.handled=none by simp[hh]) I l nI its).toS;have nSI:S≠I:=λz=>nS (by simp[z]);have more:∀b∈[I],b∈[S,I]:=λb z=>Qp _ z
 have setk:∀{s s':Shared} {ks:List av},Tps h0 s.heap->Moved [I] (λa b=>b=a) s s'->s.heap.IsListIter I l 0\/True->SetK prog w B s.heap S ks->(∀o,s.heap.get? I=some o->o.cls≠.type "tuple")->SetK prog w B s'.heap S ks:=λ{s s' ks} tp mv _ q ni=>by
  obtain⟨es,ep,t,ks',h1,h2,h3⟩:=q;exact⟨es,ep,t,ks',mv.heap S _ (by simpa using nSI) h1,Paired.mapT h2 λe k ⟨b,e1,e2,e3⟩=>⟨b,e1,Tm.cj e2 λc o hc ht=>mv.heap c o (λz=>by simp at z;subst z;exact ni o hc ht) hc,e3⟩,h3⟩
 have notI:∀{s:Shared} {i:Nat},s.heap.IsListIter I l i->∀o,s.heap.get? I=some o->o.cls≠.type "tuple" := λ⟨o',h1,h2,_⟩ o e z=>by
  rw[h1]at e;cases e;rw[h2]at z;exact absurd (Value.type.inj z) (by decide)
 have tps:∀{s s':Shared},Tps h0 s.heap->Moved [S,I] (λa b=>b=a) s s'->Tps h0 s'.heap:=λtp mv b o e ht=>mv.heap b o (λz=>by rw[new b z]at e;cases e) (tp b o e ht);intro m
 induction m with
 | zero =>
  intro i s ks em hi st tp q mm fin;obtain rfl:i=its.size:=by omega
  refine X3 F.entry_set_update_loop ?_;rw[XD F.plain_set_update_loop _];show wpAny _ A.in1 (pyNext (.ref I) >>= _) _ _ s;exact Qa (W.done s _ _ st λs1 mv=>Qf (fin s1 ks (mv.mono more) (setk tp mv (.inr trivial) q (notI st.1)) mm))
 | succ m ih =>
 intro i s ks em hi st tp q mm fin;have lt:i<its.size:=by omega
 refine X3 F.entry_set_update_loop ?_;rw[XD F.plain_set_update_loop _];show wpAny _ A.in1 (pyNext (.ref I) >>= _) _ _ s;refine Qa (W.item i s _ _ lt st λv s1 hP st1 mv=>?_);obtain⟨b,rfl,hb,tx,hB⟩:=hg i v hP;have q1:=setk tp mv (.inr trivial) q (notI st.1);have tp1:=tps tp (mv.mono more);have hb1:TK.IsT (au prog w) s1.heap (kf i) b:=Tm.cj hb tp1;show wpAny _ A.in1 (holding [Value.ref b] (setAdd S (.ref b)) >>= _) _ _ s1;refine Qa (Xf ?_);unfold setAdd;refine Xf (Qa ((bh prog w).pyHash (k:=kf i) (show A.units+1+1<cLine by omega) hb1 ?_));have kn:ks.Nodup:=let ⟨_,_,_,_,_,_,_,n,_⟩:=q;n;refine zU (s:={ s1 with toks:=s1.toks+(bh prog w).draws (kf i) }) (show A.units+1+1<cLine by omega) q1 hb1 tx hB (few ks kn λx hx=>by obtain⟨j,hj,e⟩:=(mm x).mp hx;exact⟨j,by omega,e⟩) λh2 _ ks2 sb q2 _ m2=>?_
 have mv2:Moved [S,I] (λa b=>b=a) s { s1 with heap:=h2,toks:=s1.toks+(bh prog w).draws (kf i) }:=(mv.mono more).then_heap (QM _ _) λb o z e=>by
  rw[sb.2 b (λy:b=S=>z (by rw[y];exact Xp))];exact e
 refine Qf ⟨plainId_quiet F.plain_set_update_loop _,ih (i+1) _ ks2 (by omega) lt (W.frame _ s1 _ _ st1 (QM _ _) λb z o e=>?_) (tps tp mv2) q2 (λx=>?_) λs3 ks3 mv3 q3 m3=>fin s3 ks3 (Moved.trans W.gtrans mv2 mv3) q3 m3⟩
 ·rw[sb.2 b (λy:b=S=>nS (by rw[<-y];exact z))];exact e
 rw[m2,mm]
 constructor
 ·rintro(⟨j,hj,e⟩|e)
  ·exact⟨j,by omega,e⟩
  exact⟨i,by omega,e.symm⟩
 rintro⟨j,hj,e⟩;rcases Nat.lt_succ_iff_lt_or_eq.mp hj with z|z
 ·exact .inl ⟨j,z,e⟩
 subst z;exact .inr e.symm
theorem call_set {l:Addr} {its:Array Value} {kf:Nat->av} {Q:A0} (hh:A.handled=none) (hu:A.units+8<cLine) (hl:s.heap.IsList l its)
  (hg:∀i v,its[i]?=some v->∃b,v=.ref b/\TK.IsT (au prog w) s.heap (kf i) b/\(kf i).all byV2=false/\B b) (few:∀us:List av,us.Nodup->(∀x∈us,∃j,j<its.size/\kf j=x)->us.length<76)
  (h:∀(h1:Heap) (tk:Nat) (ks:List av),SetK prog w B h1 s.heap.objs.size ks->(∀x,x∈ks↔∃j,j<its.size/\kf j=x)->(∀b o,s.heap.get? b=some o->h1.get? b=some o)->Q (.ref s.heap.objs.size) { s with heap:=h1,toks:=tk }) :
  wpAny (model prog w) A (call (.type "set") [.ref l]) Q E s:=by
 refine LG.call_set_gen (G:=λh S=>∃ks,SetK prog w B h S ks/\∀x,x∈ks↔∃j,j<its.size/\kf j=x) hh hl (λI S s0 R kp hS hI nI nS st g fin=>?_) λh1 tk ⟨ks,q,m⟩ kp=>h h1 tk ks q m kp
 have nw:∀b∈[S,I],s.heap.get? b=none:=λb hb=>by
  simp only[Qj,QE,Xi]at hb;rcases hb with rfl|rfl
  ·exact Heap.get?_none_of_le hS
  exact Heap.get?_none_of_le hI
 exact sH (A:=A.in1.in1) (h0:=s.heap) (kf:=kf) (by simp[hh]) (show A.units+1+1+3<cLine by omega) nI nS nw hg few (its.size-0) 0 s0 [] rfl (QT _) st (λb o e _=>kp b o e) (SetK.new g) (λx=>by simp) λs' ks' mv q m=>fin s' mv ⟨ks',q,m⟩
theorem SetK.raw {h:Heap} {a:Addr} {ks:List av} (x:SetK prog w B h a ks):∃es ep t ks',h.get? a=some (vj es ep t)/\Paired (El prog w B h) es.toList ks'/\ks'.Perm ks/\ks.Nodup/\es.size=ks.length/\es.size<scanBound/\t.fits es.size=true/\Led w t es.size:=by
 obtain⟨es,ep,t,ks',h1,h2,h3,h4,h5,h6,h7⟩:=x;have t127:t.mask<=127:=by rcases h5.msk with e|e|e <;> omega
 refine⟨es,ep,t,ks',h1,h2,h3,h4,by rw[<-Qm,Xk h2,h3.length_eq],by unfold scanBound;omega,?_,h7⟩;have:=h5.fits (by rw[Qd,Qm];omega);rwa [Qd,Qm]at this
theorem els_refs {h:Heap}:∀{od:List (Int × Value)} {ks:List av},Paired (El prog w B h) od ks->∃bs:A3,od.map (·.2)=bs.map Value.ref/\Paired (λb k=>TK.IsT (au prog w) h k b/\B b) bs ks
 | _,_,.nil=>⟨[],rfl,.nil⟩
 | _,_,.cons ⟨b,e1,e2,e3⟩ t=>by
  obtain⟨bs,h1,h2⟩:=els_refs t;exact⟨b::bs,by rw[Qx,Qx,e1,h1],.cons ⟨e2,e3.2⟩ h2⟩
end
end Ht
namespace L2
open PySem PySem.Spec PyProof.Rows PySem.Calls
theorem Inv.drawn {X:Cx} {pins:A1} {σ:List (Option V)} {H:Hp} {s:Shared} (I:Inv X pins σ H s) (d:Drawn):Inv X pins σ H { s with drawn:=d }:=⟨I.ok,I.os,I.bare,I.base,I.loc,I.cell,I.free,I.freeC,I.pin,I.hok,I.len⟩
section
variable {X:Cx} {a:Expr} {ta:TA} {p p1 pos pos1:Pos}
def oU (K:PySem.W.Frag) (H:Hp) (vs:List V) (ks:List av):Prop:=∃(l:Addr) (bs:A3),vs=[.ref l]/\SqL K H l (bs.map V.ref)/\KsA H bs ks/\(∀k∈ks,k.all Ht.byV2=false)/\∀us:List av,us.Nodup->(∀x∈us,x∈ks)->us.length<64
def jh (K:PySem.W.Frag) (ta:TA):TE:=λσ H Q=>ta σ H λvs H1=>∃(ks:List av) (b:Bool),oU K H1 vs ks/\rN b ks/\∀(p:Addr) (bs':A3) (us:List av),H1 p=none->KsA H1 bs' us->us.Nodup->(∀x,x∈us↔x∈ks)->us.Pairwise leF->Q (.ref p) (upd H1 p (.lst (bs'.map V.ref)))
theorem sG {pins:A1} {σ:St} {H:Hp} {s:Shared} {us:List Value} {vs:List V} {ks:List av} {Q:A0} (hc:X.calm=true) (hu:X.A.units+8<cLine) (I:Inv X pins σ H s) (r:aQ vs us) (h:oU X.K H vs ks)
  (q:∀(h1:Heap) (tk:Nat) (ks':List av),Ht.SetK X.prog X.w (λb=>bL H (cY H b) b) h1 s.heap.objs.size ks'->(∀x,x∈ks'↔x∈ks)->(∀b o,s.heap.get? b=some o->h1.get? b=some o)->Q (.ref s.heap.objs.size) { s with heap:=h1,toks:=tk }) :
  wpAny (model X.prog X.w) X.A (call (.type "set") us) Q X.xe s:=by
 obtain⟨l,bs,rfl,hl,ka,tx,few⟩:=h;obtain⟨u1,rfl,ru1⟩:=dh r;cases ru1;obtain⟨its,rv,pl,_⟩:=I.list hl;have ei:=eZ rv;have bl:=Xk ka;have zz:its.toArray.size=ks.length:=by rw[Qk,ei,Qd,bl]
 obtain⟨ek,tk⟩:=ka.tk
 have kfm:∀x,(∃j,j<its.toArray.size/\ks.getD j []=x)↔x∈ks:=λx=>by
  rw[zz]
  constructor
  ·rintro⟨j,hj,rfl⟩;rw[Qo,Qb hj];exact QW hj
  intro hx;obtain⟨j,hj,e⟩:=Xe hx;exact⟨j,hj,by rw[Qo,Qb hj];exact e⟩
 refine Ht.call_set (B:=λb=>bL H (cY H b) b) (its:=its.toArray) (kf:=λi=>ks.getD i []) (I.ok.hd hc) hu pl.isList (λi v hv=>?_) (λus nd h=>Nat.lt_trans (few us nd λx hx=>(kfm x).mp (h x hx)) (by decide)) λh1 tk ks' q1 m kp=>q h1 tk ks' q1 (λx=>(m x).trans (kfm x)) kp;have hv:its[i]?=some v:=by simpa using hv
 rw[ei,Qq]at hv;obtain⟨b,hb,rfl⟩:=Xu.mp hv;have hi:=(Qc.mp hb).1;have ej:ks[i]?=some (cY H b):=by rw[ek,Qq,hb];rfl
 have eg:ks.getD i []=cY H b:=by rw[Qo,ej];rfl
 have tb:=tk b (Qh hb);rw[eg];exact⟨b,rfl,c8 I.hok tb,tx _ (Qh ej),tb⟩
theorem lY (hc:X.calm=true) (hu:X.A.units+8<cLine) (hg:Gl X "sorted") (hm:X.mg "sorted" = none) (hg1:Gl X "set") (hm1:X.mg "set" = none) (ha:PA X [a] ta) (hs:starEach [a] X.env=[(false,eval a X.env)]:=by rfl)
  (he:starEach [.Call (.Name "set" p1) [a] [] pos1] X.env=[(false,eval (.Call (.Name "set" p1) [a] [] pos1) X.env)]:=by rfl):PE X (.Call (.Name "sorted" p) [.Call (.Name "set" p1) [a] [] pos1] [] pos) (jh X.K ta):=by
 intro pins s σ H Q I h;refine wpAny_Call_Name_kw (dH I hg hm PyProof.Rows.boot_sorted ?_);refine PyProof.Rows.callWith_builtin1 ?_ he rfl;rw[he];show wpAny _ _ (spliced ((false,eval (.Call (.Name "set" p1) [a] [] pos1) X.env)::backTo pos [])) _ _ s;refine Calls.spliced_cons ?_;refine Call_ (dH I hg1 hm1 PyProof.Rows.boot_set (Xz (thn (ha pos1 pins s σ H _ I h) λus s1 z=>?_) hs rfl));obtain⟨vs,H1,I1,r1,ks,b,so,sp,q⟩:=z;have fw:∀us:List av,us.Nodup->(∀x∈us,x∈ks)->us.length<64:=let ⟨_,_,_,_,_,_,few⟩:=so;few;refine sG hc hu I1 r1 so λh1 tk ks' sk mm kp=>Calls.spliced_nil ?_;obtain⟨es,ep,t,ks2,g1,g2,g3,g4,g5,g6,g7,g8⟩:=sk.raw;refine Calls.call_function_entry kind_sorted plain_sorted entry_sorted (args_sorted1 _) ?_;unfold Builtin.«sorted»;refine Qa (m:=checkCount "sorted" 1 1 _) (Qf ?_);refine Qa (LG.collect_set (A:=X.A.in1) (s:={ s1 with heap:=h1,toks:=tk }) (show X.A.in1.handled=none by simp[I1.ok.hd hc]) g1 rfl rfl g6 g7 g8 λh2 tk2 d od po kp2 z2=>?_);obtain⟨ks3,e3,p3⟩:=Ht.paired_perm po g2;obtain⟨bs,ev,pb⟩:=Ht.els_refs e3;have lb:bs.length=ks'.length:=by rw[Xk pb,p3.length_eq,g3.length_eq]
 have l64:ks'.length<64:=fw ks' g4 λx hx=>(mm x).mp hx;rw[ev];refine Qa (wpAny_newList ?_ (by rw[Qd,XQ];omega))
 have kb:KsA H1 bs (bs.map (cY H1))/\ks3=bs.map (cY H1):=by
  have I3:=I1.kept (t':=tk) kp;clear ev lb e3 p3
  induction pb with
  | nil=>exact⟨.nil,rfl⟩
  | @cons b k bs ks r _ ih =>
  obtain⟨i1,i2⟩:=ih;refine⟨.cons r.2 i1,?_⟩;have:=(c8 I3.hok r.2).inj r.1;rw[Qx,this,<-i2]
 obtain⟨kb,ek3⟩:=kb;have mem:∀c∈bs,cY H1 c∈ks:=λc hc=>(mm _).mp (g3.mem_iff.mp (p3.mem_iff.mp (by rw[ek3];exact Ql.mpr ⟨c,hc,rfl⟩)));have tkb:=kb.tk.2;have I3:=I1.kept (t':=tk) kp;have hoL:(h2.push (seqObj "list" (bs.map Value.ref).toArray 0)).get? h2.objs.size=some (seqObj "list" (bs.map Value.ref).toArray 0):=Qy _ rfl
 refine Qa (Xf (Q9 (s:={ s1 with heap:=h2.push (seqObj "list" (bs.map Value.ref).toArray 0),toks:=tk2,drawn:=d }) slot_list_sort ⟨_,hoL,rfl⟩ entry_list_sort
  (Tm.iA (up:=λA=>A.units<cLine) hoL (Tm.mX (b:=b) hoL (λz=>absurd (Value.type.inj z) (by decide)) (λc hc=>Tm.cj (c8 I3.hok (tkb c hc)) λb o e _=>Qe _ (kp2 _ _ e)) ⟨λx hx y hy=>sp.1 _ (mem x hx) _ (mem y hy),λx hx=>sp.2 _ (mem x hx)⟩) (show X.A.units+1+1<cLine by omega) (by rw[Qd,lb];exact l64) λout p1 p2=>⟨_,rfl,?_⟩) (args_list_sort _)))
 obtain⟨m,at'⟩:=Tm.eP (vs:=bs.map Value.ref) (out:=out) hoL;obtain⟨bs',pm,eo⟩:=jr p1;rw[eo,Xo]at p2
 have so':(bs'.map (cY H1)).Pairwise leF:=by
  rw[Xo];refine p2.imp_of_mem λ{x y} hx hy hq=>?_;have hq:Tm.lb (((Tm.mJ bs (cY H1)).keyOf (.ref y)).getD []) (((Tm.mJ bs (cY H1)).keyOf (.ref x)).getD [])=false:=hq;rw[Tm.fP _ (pm.mem_iff.mp hx),Tm.fP _ (pm.mem_iff.mp hy)]at hq;exact hq
 have pmk:(bs'.map (cY H1)).Perm ks':=((pm.map _).trans (by rw[<-ek3];exact p3)).trans g3;have I4:=(I3.kept (t':=tk2) kp2).drawn d
 exact Qf ⟨_,rfl,.ref h2.objs.size,_,I4.laid (o:=.lst (bs'.map V.ref)) (t':=tk2) (λb o e=>Tm.dW (QF (Qt e)) (Qe _ e)) (Qg _) ⟨by rw[Qd,pm.length_eq,lb,XQ];omega,out.toList,m,by rw[eo];exact f6 _,by rw[Array.toArray_toList];exact at'⟩,rfl,
  q _ bs' _ (I4.hok.fresh (Qg _)) (oo λb hb=>tkb b (pm.mem_iff.mp hb)) (pmk.nodup_iff.mpr g4) (λx=>pmk.mem_iff.trans (mm x)) so'⟩
end
end L2
set_option maxHeartbeats 4000000
namespace L2
open PySem PySem.Spec PyProof.Rows
variable {pins:A1}
theorem Inv.turnedL {X:Cx} {σ:St} {H:Hp} {s:Shared} {h':Heap} {t':Nat} {T:Addr} {o:HO} {ch:A3} (I:Inv X pins σ H s) (k:∀b o,b∉ch->s.heap.get? b=some o->h'.get? b=some o)
  (f:∀b∈ch,eE X pins H b) (hT:s.heap.objs.size<=T) (new:bp X.prog X.w (upd H T o) h' T o):Inv X pins σ (upd H T o) { s with heap:=h',toks:=t' }:=by
 have hn:H T=none:=I.hok.fresh hT;have nT:∀b u,s.heap.get? b=some u->b≠T:=λb u q=>QF (QO (Qt q) hT);have n:∀b u,H b=some u->b∉ch:=λb u q z=>by rw[(f b z).1]at q;cases q
 refine I.step (g':=s.gens) (d':=s.drawn) (ch:=ch) (λb hb=>?_) (λb u _ _ hc q _=>k b u hc q) (λb u _ _ hc q _=>⟨u.slots,k b u hc q⟩) (λb u _ q n=>by rw[ah (nT b u q)];exact n)
  (λb u hc q=>⟨u,k b u hc q⟩) (λb xs q=>by rw[ah (aq q hn)];exact q) (λb u xs q=>by rw[ah (aq q hn)];exact q) (λb ps q=>⟨#[],by rw[ah (aq q hn),q];simp⟩) (λm hm=>?_) (λb u q=>?_) I.bare
 ·obtain⟨_,a2,_,a4,a5,a6⟩:=f b hb;exact⟨a4,a2,a5,a6⟩
 ·obtain⟨ob,es,ep,ho,r⟩:=hm;exact⟨ob,es,ep,k _ ob (λz=>(f _ z).2.1 rfl) ho,r⟩
 by_cases hb:b=T
 ·subst hb;rw[ag]at q;cases q;exact new
 rw[ah hb]at q;refine(I.hok b u q).stay (λc v hc z=>k c v ?_ z) (λc z=>by rw[ah (aq z hn)];exact z) λc xs z=>by rw[ah (aq z hn)];exact z
 rcases hc with z|z
 ·rw[z];exact n b u q
 exact n c _ z
theorem Inv.turnedE {X:Cx} {σ:St} {H:Hp} {s:Shared} {h':Heap} {t':Nat} {ch:A3} (I:Inv X pins σ H s) (k:∀b o,b∉ch->s.heap.get? b=some o->h'.get? b=some o)
  (f:∀b∈ch,eE X pins H b):Inv X pins σ H { s with heap:=h',toks:=t' }:=by
 have n:∀b u,H b=some u->b∉ch:=λb u q z=>by rw[(f b z).1]at q;cases q
 refine I.step (g':=s.gens) (d':=s.drawn) (ch:=ch) (λb hb=>?_) (λb u _ _ hc q _=>k b u hc q) (λb u _ _ hc q _=>⟨u.slots,k b u hc q⟩) (λb u _ q n=>n)
  (λb u hc q=>⟨u,k b u hc q⟩) (λb xs q=>q) (λb u xs q=>q) (λb ps q=>⟨#[],by rw[q];simp⟩) (λm hm=>?_) (λb u q=>?_) I.bare
 ·obtain⟨_,a2,_,a4,a5,a6⟩:=f b hb;exact⟨a4,a2,a5,a6⟩
 ·obtain⟨ob,es,ep,ho,r⟩:=hm;exact⟨ob,es,ep,k _ ob (λz=>(f _ z).2.1 rfl) ho,r⟩
 refine(I.hok b u q).stay (λc v hc z=>k c v ?_ z) (λc z=>z) λc xs z=>z;rcases hc with z|z
 ·rw[z];exact n b u q
 exact n c _ z
section
variable {X:Cx} {elts:List Expr} {k:Nat} {tpos:Pos}
end
section
variable {X:Cx}
end
end L2
namespace LZg
open PySem LZ
section
variable {prog:Program} {w:World} {A:Around} {E:A0} {s:Shared}
variable {Q:A0} {x f0 v u a:Value} {its xs ys:Array Value} {i:Nat} {c l b z i1 i2 m:Addr}
theorem nY {t:Addr} (hc:s.heap.IsTupleIter c t i) (ht:s.heap.IsTuple t its) (hx:its[i]?=some x)
  (hQ:∀h',h'.IsTupleIter c t (i+1)->Heap.SameBut c s.heap h'->Q x { s with heap:=h' }):wpAny (model prog w) A (Builtin.SmallTypes.nextOf (.ref c)) Q E s:=by
 obtain⟨o,ho,h1,h2⟩:=id hc;obtain⟨ot,hot,_,nt,hdt⟩:=ht;unfold Builtin.SmallTypes.nextOf;refine Qa (Xq (name:=Str.ofString "__next__") hc.typeIs F.slot_tuple_iterator_next (Q9 F.slot_tuple_iterator_next hc.typeIs F.entry_tuple_iterator_next ?_ (F.args_tuple_iterator_next_1 _)));show wpAny _ _ (field (.ref c) 0 >>= _) _ _ s;refine Qa (XE ho h2 (x:=.ref t) rfl ?_);rw[Qn (show ¬((Value.ref t==Value.none)=true) from Qr)];show wpAny _ _ (field (.ref c) 1 >>= _) _ _ s;refine Qa (XE ho h2 (x:=.int i 0) rfl ?_);show wpAny _ _ (seqItems? _ >>= _) _ _ _;refine Qa (XH hot hdt ?_);simp only[Q2,hx];refine Qa (wpAny_setField ho h2 (by simp) (Qf ⟨x,rfl,Qf (hQ _ ⟨_,Xg _ ho (Obj.isFreed_of_fields (XF h2 _)),(Obj.cls_mapFields ..).trans h1,?_⟩ (Xh ..))⟩));rw[XF h2];simp[rawInt]
theorem qX {t:Addr} (hh:A.handled=none) (hc:s.heap.IsTupleIter c t i) (ht:s.heap.IsTuple t its) (hx:its[i]?=none)
  (hE:∀h' e,Heap.ExtBut c s.heap h'->(∃o,h'.get? e=some o/\o.cls=.type "StopIteration")->E (.ref e) { s with heap:=h' }):wpAny (model prog w) A (Builtin.SmallTypes.nextOf (.ref c)) Q E s:=by
 obtain⟨o,ho,h1,h2⟩:=id hc;obtain⟨ot,hot,_,nt,hdt⟩:=ht;unfold Builtin.SmallTypes.nextOf;refine Qa (Xq (name:=Str.ofString "__next__") hc.typeIs F.slot_tuple_iterator_next (Q9 F.slot_tuple_iterator_next hc.typeIs F.entry_tuple_iterator_next ?_ (F.args_tuple_iterator_next_1 _)));show wpAny _ _ (field (.ref c) 0 >>= _) _ _ s;refine Qa (XE ho h2 (x:=.ref t) rfl ?_);rw[Qn (show ¬((Value.ref t==Value.none)=true) from Qr)];show wpAny _ _ (field (.ref c) 1 >>= _) _ _ s;refine Qa (XE ho h2 (x:=.int i 0) rfl ?_);show wpAny _ _ (seqItems? _ >>= _) _ _ _;refine Qa (XH hot hdt ?_);simp only[Q2,hx];refine Qa (wpAny_rule (Qa (wpAny_setField ho h2 (by simp) ?_)));refine Qa (m:=PySem.newExc (.type "StopIteration") []) ?_;simp only[PySem.newExc,newTuple];refine Qa (XM ?_ (by size_fits));refine Qa (m:=firstArgMember _ _) (wpAny_of_eq (a:=Value.none) rfl ?_);refine XM ?_ (by size_fits);simp only[raiseNew];refine Qa (wpAny_handled ?_);rw[show A.in1.handled=none from hh];exact Qa (Qf (wpAny_throw (hE _ _ (((Xh ..).extBut.push _).push _) ⟨_,Qy _ rfl,rfl⟩)))
def SqOb:Bool->Heap->Addr->Array Value->Prop
 | true,h,l,xs=>h.IsTuple l xs
 | false,h,l,xs=>h.IsList l xs
def SqIt:Bool->Heap->Addr->Addr->Nat->Prop
 | true,h,c,l,i=>h.IsTupleIter c l i
 | false,h,c,l,i=>h.IsListIter c l i
def ur (t:Bool):String:=if t then "tuple_iterator" else "list_iterator"
variable {h h':Heap}
theorem SqIt.of {t:Bool} (g:h.get? c=some { cls:=.type (ur t),data:=.fields #[.ref l,.int i 0] }):SqIt t h c l i:=by
 cases t <;> exact⟨_,g,rfl,rfl⟩
theorem SqIt.raw {t:Bool} (x:SqIt t h c l i):∃o,h.get? c=some o/\o.data=.fields #[.ref l,.int i 0]:=by
 cases t <;> (obtain⟨o,h1,_,h3⟩:=x;exact⟨o,h1,h3⟩)
theorem SqIt.at {t:Bool} (x:SqIt t h c l i) (k:∀o,h.get? c=some o->h'.get? c=some o):SqIt t h' c l i:=by
 cases t <;> (obtain⟨o,h1,r⟩:=x;exact⟨o,k _ h1,r⟩)
theorem SqIt.extBut {t:Bool} (x:SqIt t h c l i) (hs:Heap.ExtBut b h h') (n:c≠b):SqIt t h' c l i:=x.at λo e=>hs c o n e
theorem SqOb.extBut {t:Bool} (x:SqOb t h l xs) (hs:Heap.ExtBut b h h') (n:l≠b):SqOb t h' l xs:=by
 cases t <;> (obtain⟨o,h1,r⟩:=x;exact⟨o,hs l o n h1,r⟩)
theorem SqOb.push {t:Bool} (x:SqOb t h l xs) (o:Obj):SqOb t (h.push o) l xs:=by
 cases t <;> (obtain⟨o,h1,r⟩:=x;exact⟨o,Qe _ h1,r⟩)
theorem SqOb.lt {t:Bool} (x:SqOb t h l xs):l<h.objs.size:=by
 cases t <;> (obtain⟨o,h1,r⟩:=x;exact Qt h1)
theorem uo {t:Bool} (x:SqOb t s.heap l xs) (h:Q (.ref s.heap.objs.size) { s with heap:=s.heap.push { cls:=.type (ur t),data:=.fields #[.ref l,.int 0 0] } }):wpAny (model prog w) A (pyIter (.ref l)) Q E s:=by
 cases t with
 | true=>exact wpAny_pyIter_tuple x h
 | false=>exact wpAny_pyIter_list x h
theorem pR {t:Bool} (hc:SqIt t s.heap c l i) (ht:SqOb t s.heap l its) (hx:its[i]?=some x)
  (hQ:∀h',SqIt t h' c l (i+1)->Heap.SameBut c s.heap h'->Q x { s with heap:=h' }):wpAny (model prog w) A (Builtin.SmallTypes.nextOf (.ref c)) Q E s:=by
 cases t with
 | true=>exact nY hc ht hx hQ
 | false=>exact wpAny_nextOf_list_item hc ht hx hQ
theorem nU {t:Bool} (hh:A.handled=none) (hc:SqIt t s.heap c l i) (ht:SqOb t s.heap l its) (hx:its[i]?=none)
  (hE:∀h' e,Heap.ExtBut c s.heap h'->(∃o,h'.get? e=some o/\o.cls=.type "StopIteration")->E (.ref e) { s with heap:=h' }):wpAny (model prog w) A (Builtin.SmallTypes.nextOf (.ref c)) Q E s:=by
 cases t with
 | true=>exact qX hh hc ht hx hE
 | false=>exact wpAny_nextOf_list_end hh hc ht hx hE
variable {f1 t1 t2:Bool}
theorem next_end {TI TO:Addr} {k:Nat} {a b:Value} {Q:Option Value->Shared->Prop} (hh:A.handled=none) (D:Apart5 z TI TO i1 i2 l)
  (hz:IsZ s.heap z TI TO f0 f1) (hf:(f0=.none/\f1=false/\∃a b,IsPair s.heap TO a b)\/∃(T:Addr) (oT:Obj),f0=rawInt (T:Nat)/\s.heap.get? T=some oT) (hTI:IsPair s.heap TI (.ref i1) (.ref i2)) (h1:SqIt t1 s.heap i1 l k) (hl:SqOb t1 s.heap l xs) (hv:xs[k]?=none)
  (hQ:∀h',(∀c o,c≠z->c≠i1->s.heap.get? c=some o->h'.get? c=some o)->Q none { s with heap:=h' }):wpAny (model prog w) A (pyNext (.ref z)) Q E s:=by
 have hTy:s.TypeIs (.ref z) "zip" := ⟨_,hz,rfl⟩;unfold pyNext
 refine Qa (wpAny_attempt (Xq (name:=Str.ofString "__next__") hTy F.slot_zip_next
  (Q9 F.slot_zip_next hTy F.entry_zip_next ?_ (F.args_zip_next_1 _))))
 show wpAny _ _ (field (.ref z) 2 >>= _) _ _ _;refine Qa (XE hz rfl (x:=.bool false) rfl ?_);show wpAny _ _ (field (.ref z) 3 >>= _) _ _ _;refine Qa (XE hz rfl (x:=.ref TI) rfl ?_);refine Qa (XH hTI rfl ?_);show wpAny _ _ (Builtin.SmallTypes.ownedTupleIsFree (.ref z) >>= _) _ _ _;refine Qa ?_;unfold Builtin.SmallTypes.ownedTupleIsFree;refine Qa (XE hz rfl (x:=f0) rfl ?_)
 have fin:∀h' e,(∀c o,c≠z->c≠i1->s.heap.get? c=some o->h'.get? c=some o)->(∃o,h'.get? e=some o/\o.cls=.type "StopIteration") ->
   wpAny (model prog w) A (do if <-isInstance (.ref e) (.type "StopIteration") then pure none else throw (.ref e)) Q E { s with heap:=h' }:=λh' e hk ⟨o,ho,hc⟩ =>
  Qa (wpAny_isInstance (T := "StopIteration") (b:=true) ⟨o,ho,hc⟩ isSubtype_stop (Qf (hQ _ hk)))
 rcases hf with⟨e1,e2,a,b,hTO⟩|⟨T,oT,e1,hT⟩
 ·subst e1 e2;refine Qf ?_;simp only[if_true];refine Qa (wpAny_rule ?_);refine Qa (XE hz rfl (x:=.ref TO) rfl ?_);refine Qa (XR hz (by simp) λh₁ hz1 hs₁=>?_)
  replace hz1:IsZ h₁ z TI TO .ellipsis false:=hz1
  refine Qa ?_;simp only[List.zipIdx_cons,List.zipIdx_nil,List.forIn_cons,List.forIn_nil];refine Qa (Qa (wpAny_onRaise ?_));show wpAny _ _ (Builtin.SmallTypes.nextOf (.ref i1) >>= _) _ _ _;refine Qa (nU hh (h1.extBut hs₁.extBut D.i1z) (hl.extBut hs₁.extBut D.lz) hv λh₂ e hs₂ he=>?_);obtain⟨oe,hoe,hce⟩:=he;have hz₂:IsZ h₂ z TI TO .ellipsis false:=hs₂ _ _ D.i1z.symm hz1;have hez:e≠z:=λx=>by subst x;rw[hz₂]at hoe;cases hoe;simp at hce
  refine XR hz₂ (by simp) λh₃ _ hs₃=>?_;exact fin h₃ e (λc o c1 c3 x=>hs₃.extBut _ _ c1 (hs₂ _ _ c3 (hs₁.extBut _ _ c1 x))) ⟨oe,hs₃.extBut _ _ hez hoe,hce⟩
 subst e1;show wpAny _ _ (loadIfAlive ((T:Int).toNat) >>= _) _ _ _;rw[Q2];refine Qa (xk hT ?_);simp only[Option.isNone_some,QH,XA];refine Qa (XE hz rfl (x:=.bool f1) rfl ?_)
 cases f1 with
 | false =>
  simp only[show (Value.bool false != Value.bool true)=true from rfl,if_true];refine Qa (XR hz (by simp) λh₁ hz1 hs₁=>Qf ?_)
  replace hz1:IsZ h₁ z TI TO (rawInt T) true:=hz1
  simp only[QH,XA,List.forIn_toArray,List.forIn_cons,List.forIn_nil];refine Qa (Qa (Qa (Xf ?_)));show wpAny _ _ (Builtin.SmallTypes.nextOf (.ref i1) >>= _) _ _ _;refine Qa (nU hh (h1.extBut hs₁.extBut D.i1z) (hl.extBut hs₁.extBut D.lz) hv λh₂ e hs₂ he=>?_);exact fin h₂ e (λc o c1 c3 x=>hs₂ _ _ c3 (hs₁.extBut _ _ c1 x)) he
 | true =>
 simp only[show (Value.bool true != Value.bool true)=false from rfl,QH,XA];refine Qf ?_;simp only[QH,XA,List.forIn_toArray,List.forIn_cons,List.forIn_nil];refine Qa (Qa (Qa (Xf ?_)));show wpAny _ _ (Builtin.SmallTypes.nextOf (.ref i1) >>= _) _ _ _;refine Qa (nU hh h1 hl hv λh₂ e hs₂ he=>?_);exact fin h₂ e (λc o c1 c3 x=>hs₂ _ _ c3 x) he
theorem next_first {TI TO:Addr} {k:Nat} {b:Value} {Q:Option Value->Shared->Prop} (D:Apart5 z TI TO i1 i2 l) (mz:m≠z) (mTO:m≠TO) (mi1:m≠i1) (mi2:m≠i2)
  (hz:IsZ s.heap z TI TO .none false) (hTI:IsPair s.heap TI (.ref i1) (.ref i2)) (hTO:IsPair s.heap TO a b) (h1:SqIt t1 s.heap i1 l k) (h2:SqIt t2 s.heap i2 m k) (hl:SqOb t1 s.heap l xs) (hm:SqOb t2 s.heap m ys) (hv:xs[k]?=some v) (hc:ys[k]?=some u)
  (hQ:∀h',IsZ h' z TI TO (rawInt s.heap.objs.size) false->(∃a b,IsPair h' TO a b)->SqIt t1 h' i1 l (k+1)->SqIt t2 h' i2 m (k+1)->IsPair h' s.heap.objs.size v u->h'.objs.size=s.heap.objs.size+1 ->
   (∀c o,c≠z->c≠TO->c≠i1->c≠i2->s.heap.get? c=some o->h'.get? c=some o)->Q (some (.ref s.heap.objs.size)) { s with heap:=h' }) :
  wpAny (model prog w) A (pyNext (.ref z)) Q E s:=by
 have hT:s.TypeIs (.ref z) "zip" := ⟨_,hz,rfl⟩;unfold pyNext
 refine Qa (wpAny_attempt (Xq (name:=Str.ofString "__next__") hT F.slot_zip_next
  (Q9 F.slot_zip_next hT F.entry_zip_next ?_ (F.args_zip_next_1 _))))
 show wpAny _ _ (field (.ref z) 2 >>= _) _ _ _;refine Qa (XE hz rfl (x:=.bool false) rfl ?_);show wpAny _ _ (field (.ref z) 3 >>= _) _ _ _;refine Qa (XE hz rfl (x:=.ref TI) rfl ?_);refine Qa (XH hTI rfl ?_);show wpAny _ _ (Builtin.SmallTypes.ownedTupleIsFree (.ref z) >>= _) _ _ _;refine Qa ?_;unfold Builtin.SmallTypes.ownedTupleIsFree;refine Qa (XE hz rfl (x:=.none) rfl (Qf ?_));simp only[if_true];refine Qa (wpAny_rule ?_);refine Qa (XE hz rfl (x:=.ref TO) rfl ?_);refine Qa (XR hz (by simp) λh₁ hz1 hs₁=>?_)
 replace hz1:IsZ h₁ z TI TO .ellipsis false:=hz1
 refine Qa ?_;simp only[List.zipIdx_cons,List.zipIdx_nil,List.forIn_cons,List.forIn_nil];refine Qa (Qa (wpAny_onRaise ?_));show wpAny _ _ (Builtin.SmallTypes.nextOf (.ref i1) >>= _) _ _ _;refine Qa (pR (h1.extBut hs₁.extBut D.i1z) (hl.extBut hs₁.extBut D.lz) hv λh₂ h12 hs₂=>Qf ?_);have hTO2:IsPair h₂ TO a b:=hs₂.extBut _ _ D.TOi1 (hs₁.extBut _ _ D.TOz hTO);refine Qa (XH hTO2 rfl ?_);refine Qa (wpAny_updateSeq_pair hTO2 λh₃ hTO3 hs₃=>?_)
 replace hTO3:IsPair h₃ TO v b:=hTO3
 refine Qa (wpAny_letGo (Qf ?_));refine Qa (Qa (wpAny_onRaise ?_));show wpAny _ _ (Builtin.SmallTypes.nextOf (.ref i2) >>= _) _ _ _;have h23:SqIt t2 h₃ i2 m k:=((h2.extBut hs₁.extBut D.i2z).extBut hs₂.extBut D.i12.symm).extBut hs₃.extBut D.TOi2.symm;refine Qa (pR h23 (((hm.extBut hs₁.extBut mz).extBut hs₂.extBut mi1).extBut hs₃.extBut mTO) hc λh₄ h24 hs4=>Qf ?_);have hTO4:IsPair h₄ TO v b:=hs4.extBut _ _ D.TOi2 hTO3;refine Qa (XH hTO4 rfl ?_);refine Qa (wpAny_updateSeq_pair hTO4 λh₅ hTO5 hs5=>?_)
 replace hTO5:IsPair h₅ TO v u:=hTO5
 refine Qa (wpAny_letGo (Qf (Qf ?_)));refine Qa (XH hTO5 rfl ?_);refine Qa (wpAny_newTuple ?_);have hsz:h₅.objs.size=s.heap.objs.size:=by rw[hs5.1,hs4.1,hs₃.1,hs₂.1,hs₁.1]
 have hz5:IsZ h₅ z TI TO .ellipsis false:=hs5.extBut _ _ D.TOz.symm (hs4.extBut _ _ D.i2z.symm (hs₃.extBut _ _ D.TOz.symm (hs₂.extBut _ _ D.i1z.symm hz1)))
 have hk₅:∀c o,c≠z->c≠TO->c≠i1->c≠i2->s.heap.get? c=some o->h₅.get? c=some o:=λc o c1 c2 c3 c4 e =>
  hs5.extBut _ _ c2 (hs4.extBut _ _ c4 (hs₃.extBut _ _ c2 (hs₂.extBut _ _ c3 (hs₁.extBut _ _ c1 e))))
 have h1₅:SqIt t1 h₅ i1 l (k+1):=((h12.extBut hs₃.extBut D.TOi1.symm).extBut hs4.extBut D.i12).extBut hs5.extBut D.TOi1.symm;have h25:SqIt t2 h₅ i2 m (k+1):=h24.extBut hs5.extBut D.TOi2.symm;have hzlt:z<h₅.objs.size:=Qt hz5;show wpAny _ _ (Builtin.SmallTypes.ownedTupleHandOut (.ref z) (.ref h₅.objs.size) >>= _) _ _ _;refine Qa ?_;unfold Builtin.SmallTypes.ownedTupleHandOut;have hz6:IsZ (h₅.push { cls:=.type "tuple", data:=.seq #[v,u] }) z TI TO .ellipsis false:=Qe _ hz5;refine Qa (XR hz6 (by simp) λh₇ hz7 hs7=>?_)
 replace hz7:IsZ h₇ z TI TO (rawInt h₅.objs.size) false:=hz7
 refine XR hz7 (by simp) λh₈ hz₈ hs8=>?_
 replace hz₈:IsZ h₈ z TI TO (rawInt h₅.objs.size) false:=hz₈
 have up:∀c o,c≠z->h₅.get? c=some o->h₈.get? c=some o:=λc o c1 e=>hs8.extBut _ _ c1 (hs7.extBut _ _ c1 (Qe _ e));have hT8:IsPair h₈ h₅.objs.size v u:=hs8.extBut _ _ (Nat.ne_of_gt hzlt) (hs7.extBut _ _ (Nat.ne_of_gt hzlt) (Qy _ rfl));have hz8:h₈.objs.size=h₅.objs.size+1:=by rw[hs8.1,hs7.1,Xy]
 rw[hsz]at hz₈ hT8 hz8;refine Qf ⟨_,rfl,Qf ?_⟩;show Q (some (.ref h₅.objs.size)) _;rw[hsz];exact hQ h₈ hz₈ ⟨_,_,up _ _ D.TOz hTO5⟩ (h1₅.at λo e=>up _ o D.i1z e) (h25.at λo e=>up _ o D.i2z e) hT8 hz8 λc o c1 c2 c3 c4 e=>up c o c1 (hk₅ c o c1 c2 c3 c4 e)
abbrev zH1 (t1:Bool) (h:Heap) (l:Addr):Heap:=h.push { cls:=.type (ur t1),data:=.fields #[.ref l,.int 0 0] }
abbrev zH2 (t1 t2:Bool) (h:Heap) (l m:Addr):Heap:=(zH1 t1 h l).push { cls:=.type (ur t2),data:=.fields #[.ref m,.int 0 0] }
abbrev zH3 (t1 t2:Bool) (h:Heap) (l m:Addr):Heap:=(zH2 t1 t2 h l m).push { cls:=.type "tuple", data:=.seq #[.ref h.objs.size,.ref (zH1 t1 h l).objs.size] }
abbrev zH4 (t1 t2:Bool) (h:Heap) (l m:Addr):Heap:=(zH3 t1 t2 h l m).push { cls:=.type "tuple", data:=.seq #[.none,.none] }
abbrev zH5 (t1 t2:Bool) (h:Heap) (l m:Addr):Heap:=(zH4 t1 t2 h l m).push { cls:=.type "zip", data:=.fields #[.none,.bool false,.bool false,.ref (zH2 t1 t2 h l m).objs.size,.ref (zH3 t1 t2 h l m).objs.size] }
theorem qY (t1 t2:Bool) (l m:Addr) (xs ys:Array Value) :
  Meets (Builtin.«zip.__new__» ⟨[.type "zip", .ref l,.ref m],[]⟩) (λ_ R s=>SqOb t1 s.heap l xs/\SqOb t2 s.heap m ys/\R (.ok (.ret (.ref (zH4 t1 t2 s.heap l m).objs.size))) { s with heap:=zH5 t1 t2 s.heap l m }) :=
 .of_wp λprog w A R s h=>by
  obtain⟨hp,g,d,tk,os⟩:=s;obtain⟨hl1,hl2,h⟩:=h;have hsub:=sub_zip;have hL1:SqOb t1 (Shared.heap ⟨hp,g,d,tk,os⟩) l xs:=hl1;have hL2:SqOb t2 (Shared.heap ⟨hp.push { cls:=.type (ur t1),data:=.fields #[.ref l,.int 0 0] },g,d,tk,os⟩) m ys:=hl2.push _
  wp_walk using uo hL1,uo hL2
  exact⟨_,rfl,h⟩
theorem call_zip (hl1:SqOb t1 s.heap l xs) (hl2:SqOb t2 s.heap m ys)
  (h:∀h',IsZ h' (s.heap.objs.size+4) (s.heap.objs.size+2) (s.heap.objs.size+3) .none false->IsPair h' (s.heap.objs.size+2) (.ref s.heap.objs.size) (.ref (s.heap.objs.size+1)) ->
   IsPair h' (s.heap.objs.size+3) .none .none->SqIt t1 h' s.heap.objs.size l 0->SqIt t2 h' (s.heap.objs.size+1) m 0->h'.objs.size=s.heap.objs.size+5 ->
   (∀c o,s.heap.get? c=some o->h'.get? c=some o)->Q (.ref (s.heap.objs.size+4)) { s with heap:=h' }) :
  wpAny (model prog w) A (call (.type "zip") [.ref l,.ref m]) Q E s:=by
 refine callType_new F.called_zip (by decide) (F.typeCall_zip_2 _ _) (F.newCall_zip_2 _ _) (λobj=>F.args_object_init_3 obj _ _) F.entry_zip_new (qY t1 t2 l m xs ys) ⟨hl1,hl2,?_⟩;have z1:(zH1 t1 s.heap l).objs.size=s.heap.objs.size+1:=Xy ..;have z2:(zH2 t1 t2 s.heap l m).objs.size=s.heap.objs.size+2:=by rw[Xy,z1]
 have z3:(zH3 t1 t2 s.heap l m).objs.size=s.heap.objs.size+3:=by rw[Xy,z2]
 have z4:(zH4 t1 t2 s.heap l m).objs.size=s.heap.objs.size+4:=by rw[Xy,z3]
 have z5:(zH5 t1 t2 s.heap l m).objs.size=s.heap.objs.size+5:=by rw[Xy,z4]
 have g5:(zH5 t1 t2 s.heap l m).get? (zH4 t1 t2 s.heap l m).objs.size=some _:=Qy _ rfl;have g4:(zH5 t1 t2 s.heap l m).get? (zH3 t1 t2 s.heap l m).objs.size=some _:=Qe _ (Qy _ rfl);have g3:(zH5 t1 t2 s.heap l m).get? (zH2 t1 t2 s.heap l m).objs.size=some _:=Qe _ (Qe _ (Qy _ rfl));have g2:(zH5 t1 t2 s.heap l m).get? (zH1 t1 s.heap l).objs.size=some _:=Qe _ (Qe _ (Qe _ (Qy _ rfl)));have g1:(zH5 t1 t2 s.heap l m).get? s.heap.objs.size=some _:=Qe _ (Qe _ (Qe _ (Qe _ (Qy _ rfl))));show _/\_;rw[z2,z3,z4]at g5;rw[z1,z2]at g3;rw[z3]at g4;rw[z1]at g2;rw[z4]
 exact⟨⟨_,g5,rfl⟩,h _ g5 g3 g4 (SqIt.of g1) (SqIt.of g2) z5 λc o x =>
  Qe _ (Qe _ (Qe _ (Qe _ (Qe _ x))))⟩
end
end LZg
namespace L2
open PySem PySem.Spec PyProof.Rows
def SqS:Bool->PySem.W.Frag->Hp->Addr->List V->Prop
 | true,K,H,a,xs=>SqT K H a xs
 | false,K,H,a,xs=>SqL K H a xs
variable {xs ys:List V} {a D:Addr} {pins:A1}
theorem Inv.sq {X:Cx} {σ:St} {H:Hp} {s:Shared} (I:Inv X pins σ H s) {t:Bool} (h:SqS t X.K H a xs):∃its:List Value,aQ xs its/\LZg.SqOb t s.heap a its.toArray/\xs.length<=sizeLine:=by
 cases t with
 | true=>obtain⟨its,r,p,z⟩:=I.tuple h;exact⟨its,r,p,z⟩
 | false=>obtain⟨its,r,p,z⟩:=I.list h;exact⟨its,r,p.isList,z⟩
theorem Inv.sq_inj {X:Cx} {σ:St} {H:Hp} {s:Shared} (I:Inv X pins σ H s) {t:Bool} (h1:SqS t X.K H a xs) (h2:SqS t X.K H a ys):xs=ys:=by
 cases t with
 | true=>exact I.tuple_inj h1 h2
 | false=>exact I.list_inj h1 h2
noncomputable def uX (t1 t2:Bool) (K:PySem.W.Frag) (a b:Addr):It :=
 ⟨λi H=>(∃xs x,SqS t1 K H a xs/\xs[i]?=some x)/\∃ys y,SqS t2 K H b ys/\ys[i]?=some y,λi H x H'=>∃T v u,H T=none/\x=.ref T/\H'=upd H T (.tup [v,u])/\(∀xs,SqS t1 K H a xs->xs[i]?=some v)/\∀ys,SqS t2 K H b ys->ys[i]?=some u,λi H=>∃xs,SqS t1 K H a xs/\xs.length<=i⟩
theorem qC {t1 t2:Bool} {P:Program} {w:World} {K:PySem.W.Frag} {elts:List Expr} {k:Nat} {pos:Pos} (a bb z TI TO i1 i2:Addr) (D:LZ.Apart5 z TI TO i1 i2 a) (mz:bb≠z) (mTO:bb≠TO) (mi1:bb≠i1) (mi2:bb≠i2) :
  Turn P w K (.Tuple elts k pos) (uX t1 t2 K a bb) [z,TI,TO,i1,i2] z (λi h=>LZ.IsZ h z TI TO .none false/\IsPair h TI (.ref i1) (.ref i2)/\(∃u v,IsPair h TO u v)/\LZg.SqIt t1 h i1 a i/\LZg.SqIt t2 h i2 bb i) where
 mem:=by simp
 obj:=λi h st b hb=>by
  obtain⟨hz,hTI,⟨u,v,hTO⟩,h1,h2⟩:=st;obtain⟨o1,g1,d1⟩:=h1.raw;obtain⟨o2,g2,d2⟩:=h2.raw;simp only[Qj,QE,Xi]at hb;rcases hb with rfl|rfl|rfl|rfl|rfl
  ·exact⟨_,hz,λv q=>by have q':Data.fields _=Data.cell v:=q;cases q'⟩
  ·exact⟨_,hTI,λv q=>by have q':Data.seq _ _=Data.cell v:=q;cases q'⟩
  ·exact⟨_,hTO,λv q=>by have q':Data.seq _ _=Data.cell v:=q;cases q'⟩
  ·exact⟨o1,g1,λv q=>by rw[d1]at q;cases q⟩
  exact⟨o2,g2,λv q=>by rw[d2]at q;cases q⟩
 keep:=λi h h' st kk=>by
  obtain⟨hz,hTI,⟨u,v,hTO⟩,h1,h2⟩:=st;exact⟨kk z (by simp) _ hz,kk TI (by simp) _ hTI,⟨u,v,kk TO (by simp) _ hTO⟩,h1.at λo e=>kk i1 (by simp) o e,h2.at λo e=>kk i2 (by simp) o e⟩
 item:=by
  intro X hP hw hK hc i pins s σ H E I hf st hg;subst hP hw hK;obtain⟨⟨xs,y,hq,hx⟩,ys,y2,hq2,hx2⟩:=hg;obtain⟨its,rv,p,hsz⟩:=I.sq hq;obtain⟨u,hu,ru⟩:=rv.get hx;obtain⟨its2,rv2,p2,hsz2⟩:=I.sq hq2;obtain⟨u2,hu2,ru2⟩:=rv2.get hx2;obtain⟨hz,hTI,⟨a0,b0,hTO⟩,h1,h2⟩:=st;refine LZg.next_first D mz mTO mi1 mi2 hz hTI hTO h1 h2 p p2 (v:=u) (u:=u2) (by simpa using hu) (by simpa using hu2) λh' b1 b2 b3 b4 b5 b6 b7=>⟨_,rfl,?_⟩;refine wpAny_letOwnedTupleGo_zip (T:=s.heap.objs.size) b1 λh2' c1 c2=>?_
  have szT:∀c∈[z,TI,TO,i1,i2],c≠s.heap.objs.size:=λc hc=>by
   have:∃o,s.heap.get? c=some o:=by
    simp only[Qj,QE,Xi]at hc;obtain⟨o1,g1,_⟩:=h1.raw;obtain⟨o2,g2,_⟩:=h2.raw;rcases hc with rfl|rfl|rfl|rfl|rfl
    ·exact⟨_,hz⟩
    ·exact⟨_,hTI⟩
    ·exact⟨_,hTO⟩
    ·exact⟨_,g1⟩
    exact⟨_,g2⟩
   obtain⟨o,e⟩:=this;exact QF (Qt e)
  have zT:z≠s.heap.objs.size:=szT z (by simp)
  have keep2:∀b o,b∉[z,TI,TO,i1,i2]->s.heap.get? b=some o->h2'.get? b=some o:=λb o nb q=>by
   simp only[Qj,QE,Xi,not_or]at nb;exact c2.extBut b o nb.1 (b7 b o nb.1 nb.2.2.1 nb.2.2.2.1 nb.2.2.2.2 q)
  have kp:∀{b o},b≠z->h'.get? b=some o->h2'.get? b=some o:=λnb q=>c2.extBut _ _ nb q;have tup2:h2'.get? s.heap.objs.size=some _:=kp (Ne.symm zT) b5
  have I2:Inv X pins σ (upd H s.heap.objs.size (.tup [y,y2])) { s with heap:=h2',toks:=s.toks } :=
   I.turnedL (ch:=[z,TI,TO,i1,i2]) keep2 hf (Qg _) ⟨(by show 2<=sizeLine;decide),[u,u2],.cons ru (.cons ru2 .nil),⟨_,tup2,rfl,_,rfl⟩⟩
  obtain⟨a1,b1',b2'⟩:=b2;refine⟨.ref s.heap.objs.size,_,I2,rfl,⟨s.heap.objs.size,y,y2,I.hok.fresh (Qg _),rfl,rfl,λys hy=>by rw[I.sq_inj hy hq];exact hx,λys hy=>by rw[I.sq_inj hy hq2];exact hx2⟩,⟨c1,?_,⟨a1,b1',?_⟩,?_,?_⟩,λb hb=>?_⟩
  ·exact kp D.TIz (b7 TI _ D.TIz D.TITO D.TIi1 D.TIi2 hTI)
  ·exact kp D.TOz b2'
  ·exact b3.at λo e=>kp D.i1z e
  ·exact b4.at λo e=>kp D.i2z e
  rw[ah (szT b hb)];exact(hf b hb).1
 done:=by
  intro X hP hw hK hc i pins s σ H E I hf st hg;subst hP hw hK;obtain⟨xs,hq,hx⟩:=hg;obtain⟨its,rv,p,hsz⟩:=I.sq hq;obtain⟨hz,hTI,hTO,h1,h2⟩:=st;have hlen:=rv.length;refine LZg.next_end (a:=.none) (b:=.none) (I.ok.hd hc) D hz (.inl ⟨rfl,rfl,hTO⟩) hTI h1 p (by simp;omega) λh' eb=>⟨rfl,?_⟩
  exact I.turnedE (t':=s.toks) (ch:=[z,TI,TO,i1,i2]) (λb o nb q=>by
   simp only[Qj,QE,Xi,not_or]at nb
   exact eb b o nb.1 nb.2.2.2.1 q) hf
 self:=λ_ _ _ _ _ st h=>wpAny_pyIter_zip st.1 h
section
variable {X:Cx} {elts:List Expr} {k:Nat} {tpos:Pos}
def zM (K:PySem.W.Frag) (ta:TA):TI:=λσ H R=>ta σ H λvs H1=>∃a b t1 t2,vs=[.ref a,.ref b]/\(∃xs,SqS t1 K H1 a xs)/\(∃ys,SqS t2 K H1 b ys)/\R (uX t1 t2 K a b) H1
theorem pL {a b:Expr} {ta:TA} {p pos:Pos} (hg:Gl X "zip") (hm:X.mg "zip" = none) (ha:PA X [a,b] ta) (hs:starEach [a,b] X.env=[(false,eval a X.env),(false,eval b X.env)]:=by rfl) (hs2:starEach [b] X.env=[(false,eval b X.env)]:=by rfl):PI X (.Tuple elts k tpos) (.Call (.Name "zip" p) [a,b] [] pos) (zM X.K ta):=by
 intro pins s σ H R I h;refine Call_ (dH I hg hm boot_zip (Xz (thn (ha pos pins s σ H _ I h) λus s1 ⟨vs,H1,I1,r1,q1⟩=>?_) (by rw[hs,hs2]) (by rw[hs2];rfl)));obtain⟨l,m,t1,t2,e,⟨xs,hq⟩,⟨ys,hq2⟩,q⟩:=q1;subst e;obtain⟨u1,u2,eu,r3,r2⟩:=lC r1;subst eu;cases (show u1=Value.ref l from r3);cases (show u2=Value.ref m from r2)
 have frs:∀b∈[s1.heap.objs.size+4,s1.heap.objs.size+2,s1.heap.objs.size+3,s1.heap.objs.size,s1.heap.objs.size+1],s1.heap.objs.size<=b:=λb hb=>by
  simp only[Qj,QE,Xi]at hb;rcases hb with rfl|rfl|rfl|rfl|rfl
  ·exact QM _ _
  ·exact QM _ _
  ·exact QM _ _
  ·exact Qg _
  exact QM _ _
 obtain⟨its,rv,pl,hz⟩:=I1.sq hq;obtain⟨its2,rv2,pl2,hz2⟩:=I1.sq hq2;refine LZg.call_zip pl pl2 λh' b1 b2 b3 b4 b5 b6 b7=>?_;refine wpAny_pyIter_zip b1 ?_;have I2:Inv X pins σ H1 { s1 with heap:=h' }:=I1.kept (t':=s1.toks) b7;have ll:@LT.lt Nat _ l s1.heap.objs.size:=pl.lt;have lm:@LT.lt Nat _ m s1.heap.objs.size:=pl2.lt;refine⟨s1.heap.objs.size+4,[s1.heap.objs.size+4,s1.heap.objs.size+2,s1.heap.objs.size+3,s1.heap.objs.size,s1.heap.objs.size+1],_,_,H1,rfl,I2,qC l m (s1.heap.objs.size+4) (s1.heap.objs.size+2) (s1.heap.objs.size+3) s1.heap.objs.size (s1.heap.objs.size+1) ?_ (by show @Ne Nat _ _;omega) (by show @Ne Nat _ _;omega) (by show @Ne Nat _ _;omega) (by show @Ne Nat _ _;omega),⟨b1,b2,⟨_,_,b3⟩,b4,b5⟩,λb hb=>I1.fpOk (frs b hb) (I1.hok.fresh (frs b hb)),q⟩
 constructor <;> (show @Ne Nat _ _;omega)
end
theorem oH {K:PySem.W.Frag} {H1:Hp} {σ0:St} {g:TG} {te:TE} {tt:TT} {QD:Hp->Prop} {xs:List V} (Pv:Nat->Hp->List V->Prop) (h0:Pv 0 (upd H1 D (.lst [])) []) (hD:∀i H ys,Pv i H ys->H D=some (.lst ys)/\SqL K H a xs)
  (hs:∀i x H ys,xs[i]?=some x->Pv i H ys->g x σ0 H λσ2 H2=>wk σ0 σ2/\tt σ2 H2 λb H3=>if b=true then te σ2 H3 (eX Pv xs.length D i ys) else ∃m',m'<xs.length-i/\(m'=xs.length-(i+1)/\i+1<=xs.length/\Pv (i+1) H3 ys)) (hd:∀H ys,Pv xs.length H ys->QD H) :
  ∃W:Nat->Nat->Hp->List V->Prop,(∃m,W 0 m (upd H1 D (.lst [])) [])/\∀i m H ys,W i m H ys->H D=some (.lst ys)/\(((Itl K a).stop i H/\QD H)\/((Itl K a).go i H/\∀x H',(Itl K a).yld i H x H'->g x σ0 H' λσ2 H2=>wk σ0 σ2/\tt σ2 H2 λb H3 =>
   if b=true then te σ2 H3 λv H4=>H4 D=some (.lst ys)/\ys.length<sizeLine/\∃m',m'<m/\W (i+1) m' (upd H4 D (.lst (ys++[v]))) (ys++[v]) else ∃m',m'<m/\W (i+1) m' H3 ys)):=by
 refine⟨λi m H ys=>m=xs.length-i/\i<=xs.length/\Pv i H ys,⟨xs.length,by simp,QT _,h0⟩,?_⟩;rintro i m H ys ⟨rfl,hi,p⟩;obtain⟨d1,d2⟩:=hD i H ys p;refine⟨d1,?_⟩;by_cases hlt:i<xs.length
 ·refine .inr ⟨⟨xs,xs[i],d2,by simp[hlt]⟩,λx H' y=>?_⟩;obtain⟨e,y⟩:=y;subst e;exact hs i x _ ys (y xs d2) p
 have e:i=xs.length:=by exact om0 hi hlt
 subst e;exact .inl ⟨⟨xs,d2,Qg _⟩,hd H ys p⟩
theorem mU {a:Nat} (h:a<=xs.length):kW xs (some (a:Int)) none=xs.drop a:=by
 unfold kW;rw[HT.pB,HT.lU,Nat.min_eq_left h,Q8 (by rw[XB];exact om1)]
theorem uJ {a:Nat} (h:a<=xs.length):kW xs none (some (a:Int))=xs.take a:=by
 unfold kW;rw[HT.pB,HT.lU,Nat.min_eq_left h];simp
theorem uD {x:V} (h:cr x=true):eqV x x=true:=by
 cases x <;> first|(simp[eqV];done)|(simp[cr]at h;done)|simp_all [eqV,cr]
theorem iT (n:Nat):((List.range n).all λ_=>true)=true:=QX.mpr λ_ _=>rfl
section
variable {K:PySem.W.Frag} {H:Hp} {Q:VK}
theorem uC {n:Nat} {x:V} (h:cr x=true):EqD K H n x x true:=by
 have q:=EqD.flat (K:=K) (H:=H) (n:=n) h h;rwa [uD h]at q
variable {xs ys:List V} {a b l:Addr}
theorem qh {n:Nat} (h1:SqT K H a xs) (h2:SqT K H b ys) (hl:xs.length=ys.length) (hi:∀(j:Nat) x y,xs[j]?=some x->ys[j]?=some y->EqD K H n x y true):EqD K H (n+1) (.ref a) (.ref b) true:=by
 by_cases e:a=b
 ·subst e;exact .same
 have q:=EqD.tups (e:=λ_=>true) h1 h2 hi e;rw[iT,hl,Bool.true_and,beq_self_eq_true]at q;exact q
theorem jM {n:Nat} (f:xs.all cr=true):∀(j:Nat) x y,xs[j]?=some x->xs[j]?=some y->EqD K H n x y true:=λj x y e1 e2=>by
 rw[e1]at e2;cases e2;exact uC (QX.mp f x (Qh e1))
theorem zJ (h1:SqL K H a xs) (h2:SqL K H b ys) (hl:xs.length=ys.length) (hi:∀(j:Nat) x y,xs[j]?=some x->ys[j]?=some y->EqD K H 8 x y true) (q:Q (.bl true) H):g_ K false (.ref a) (.ref b) H Q:=by
 refine⟨a,b,xs,ys,λ_=>true,rfl,rfl,h1,h2,hi,?_⟩;rw[iT,hl,beq_self_eq_true];exact q
theorem zI (h1:SqL K H a xs) (h2:SqL K H b ys) (hl:xs.length=ys.length) (hi:∀(j:Nat) x y,xs[j]?=some x->ys[j]?=some y->EqD K H 8 x y true) (q:Q (.bl false) H):g_ K true (.ref a) (.ref b) H Q:=by
 refine⟨a,b,xs,ys,λ_=>true,rfl,rfl,h1,h2,hi,?_⟩;rw[iT,hl,beq_self_eq_true];exact q
theorem pE {R:Bool->Hp->Prop} {σ:St} (hl:H l=some (.lst xs)) (q:∀H',ak H H'->R (decide (xs.length=0)) H'):rZ j3 σ H λy H2=>g_ K false (.ref l) y H2 λx H'=>∃k,x=.bl k/\R k H':=by
 refine i_lst (bo ⟨by simp[sizeLine],λp hp=>?_⟩);refine⟨l,p,xs,[],λ_=>true,rfl,rfl,SqL.of (ar hp _ _ hl),SqL.of ag,λj x y _ e=>by simp at e,_,rfl,?_⟩
 have e:(if false=true then !(xs.length==([]:List V).length&&(List.range xs.length).all λ_=>true) else (xs.length==([]:List V).length&&(List.range xs.length).all λ_=>true))=decide (xs.length=0):=by
  rw[Qn Qr,iT,Bool.and_true];rfl
 rw[e];exact q _ (ar hp)
end
section
variable {X:Cx}
def sU (T:Addr):R2:=λx y H Q=>x=.ref T/\((y=.str "+" /\ Q (.str "0") H)\/(y=.str "-" /\ Q (.str "1") H))
theorem ye {T:Addr} (hT:jg X.K T [("+", .flat (.str "0")),("-", .flat (.str "1"))]):IxR X (sU T):=by
 intro value slice pins s σ H x y v u Q I rx ry h hs;obtain⟨e1,h⟩:=h;subst e1;cases rx;have here:KTD.Here X.base s.heap T [("+", .flat (.str "0")),("-", .flat (.str "1"))]:=⟨KTD.text_of_look (get:=λa=>X.K.lookup a) (λa o e=>I.mod.kin a o e) hT,I.bk⟩;rcases h with⟨e,q⟩|⟨e,q⟩
 ·subst e;obtain⟨t,e⟩:=ry;subst e;refine KTD.item_textA here (by rfl) (by decide +kernel) ?_ hs;have e:decide (("+" : Str) = "+")=true:=by decide +kernel
  simp only[KTD.EachL,e,if_true];exact λt=>⟨.str "0", H,I.tok _,⟨_,rfl⟩,q⟩
 subst e;obtain⟨t,e⟩:=ry;subst e;refine KTD.item_textA here (by rfl) (by decide +kernel) ?_ hs;have e:decide (("-" : Str) = "+")=false:=by decide +kernel
 simp only[KTD.EachL,e,QH,XA];exact λ_ t=>⟨.str "1", H,I.tok _,⟨_,rfl⟩,q⟩
end
section
variable {X:Cx} {scope:Scope} {tgs:List Str} {cap:List (Str × Nat)}
theorem lW {j:Nat} {x:Str} {pos' spos:Pos} {elt tg iter:Expr} {ifs:List Expr} {pos:Pos} {wi:TI} {g:TG} {tt:TT} {te:TE} (hN:X.N.Nodup) (hj:X.N[j]?=some x) (hx:Loc X.env.scope x) (hc:X.calm=true) (B:BlockOk X scope tgs cap) (hi:PI X tg iter wi)
  (hg:∀C s H fp,PG (X.block (tgs++cap.map (·.1)) scope C s H fp) tg g) (ht:∀C s H fp,wD (X.block (tgs++cap.map (·.1)) scope C s H fp) ifs tt) (he:∀C s H fp,PE (X.block (tgs++cap.map (·.1)) scope C s H fp) elt te)
  (hs:∀x,foldedSetIterable iter X.env x=pure x:=by intro _;rfl) (hsw:swapsWith (.ListComp elt [⟨tg,iter,ifs,0⟩] scope pos) (some (.Name x pos')) spos.line X.env=pure true:=by rfl)
  (hf:X.fn x=true\/X.env.scope.names.lookup x=some .local:=by z_go):PS X (.Assign [.Name x pos'] (.ListComp elt [⟨tg,iter,ifs,0⟩] scope pos) spos) (se (gL wi g tt te (bB tgs cap)) (dv j)):=by
 intro pins s σ H D I h;rw[exec_Assign_Name_used _ _ _ _ hsw];refine Qa (wpAny_standAt (Qa ?_));show wpAny _ _ (comprehension _ _ _ _ _ _ _ _ >>= _) _ _ _;refine Qa (thn (Q:=λ_ s'=>SP X pins D .next s') ?_ λ_ s' q=>Qf (Qf q));refine wpAny_comprehension_free (use:=some (assign (.Name x pos') X.env)) rfl hs (iP (B.cellAt I.ok)) B.kind B.locs (thn (hi pins s σ H _ I h) λv s1 h1=>thn h1 λitv s2 h2=>?_);obtain⟨it,fp,tn,J,H2,e,I2,T,st2,f2,q⟩:=h2;subst e;have lt2:∀b∈fp,b<s2.heap.objs.size:=λb hb=>let ⟨o,e,_⟩:=T.obj _ _ st2 b hb;Qt e;have hD:H2 s2.heap.objs.size=none:=I2.hok.fresh (Qg _);obtain⟨W,⟨m0,w0⟩,turn⟩:=q s2.heap.objs.size hD;refine XM ?_;have I3:Inv X pins σ (upd H2 s2.heap.objs.size (.lst [])) { s2 with heap:=s2.heap.push { cls:=.type "list", dict:=none,data:=.seq ([]:List Value).toArray } }:=I2.lnew (t':=s2.toks) (ys:=[]) (its:=[]) .nil (QT _);have st3:tn 0 (s2.heap.push { cls:=.type "list", dict:=none,data:=.seq ([]:List Value).toArray }):=T.keep _ _ _ st2 λb _ o e=>Qe _ e;have nD:∀b∈fp,b≠s2.heap.objs.size:=λb hb=>QF (lt2 b hb);have f3:∀b∈fp,eE X pins (upd H2 s2.heap.objs.size (.lst [])) b:=λb hb=>⟨by rw[ah (nD b hb)];exact(f2 b hb).1,(f2 b hb).2⟩;generalize hs3:({ s2 with heap:=s2.heap.push { cls:=.type "list", dict:=none,data:=.seq ([]:List Value).toArray } }:Shared)=s3 at I3 st3 ⊢;have st3':tn 0 s3.heap:=by rw[<-hs3];exact st3
 have lt3:∀b∈fp,b<s3.heap.objs.size:=λb hb=>let ⟨o,e,_⟩:=T.obj _ _ st3' b hb;Qt e;generalize hH3:upd H2 s2.heap.objs.size (.lst [])=H3 at I3 f3 w0;generalize s2.heap.objs.size=DD at *;refine wpAny_newFunctionEnv B.noc (by intro y hy;simp at hy) (λh1 hns hsb=>?_) B.kind;have old:∀b o,s3.heap.get? b=some o->h1.get? b=some o:=λb o e=>hsb.extBut b o (QF (Qt e)) (Qe _ e);have I4:=Inv.enter (tk:=s3.toks+([]:List (Str × Value)).length) (h1:=h1) B I3 f3 lt3 hns old;have st4:tn 0 h1:=T.keep _ _ _ st3' λb _ o e=>old b o e
 have fpB:∀{H':Hp},(∀b∈fp,H' b=none)->∀b∈fp,eE (X.block (tgs++cap.map (·.1)) scope s3.heap.objs.size s3 H3 fp) [] H' b:=λ{H'} hn b hb =>
  ⟨hn b hb,QF (lt3 b hb),I4.ok.exfs b hb,.inl hb,λx c e=>(I4.ok.exf b hb).2 x c e,λp hp=>absurd (show p∈([]:A1) from hp) (by simp)⟩
 have loop:codeAny (model X.prog X.w) X.A (.compLoop (.ListComp elt [⟨tg,iter,ifs,0⟩] scope pos) 0 (.ref it) (.ref DD) (compEnvC scope (cC X.env scope.names []) s3.heap.objs.size X.env))
   (compPost (model X.prog X.w) X.A X.xe (some (assign (.Name x pos') X.env)) (λ_ s'=>SP X pins D .next s') (.ref DD) s3.heap.objs.size) { s3 with heap:=h1,toks:=s3.toks+([]:List (Str × Value)).length }:=by
  refine fV (λn s'=>∃i H' ys,Inv (X.block (tgs++cap.map (·.1)) scope s3.heap.objs.size s3 H3 fp) [] (bB tgs cap σ) H' s'/\tn i s'.heap/\(∀b∈fp,H' b=none)/\W i n H' ys) ?_ m0 ⟨0,H3,[],I4,st4,λb hb=>(f3 b hb).1,w0⟩;rintro n s5 ⟨i,H5,ys,I5,st5,fr5,w5⟩;obtain⟨hl,ht5⟩:=turn i n H5 ys w5;rcases ht5 with⟨stop,qd⟩|⟨go,step⟩
  ·refine thn (T.done (X.block (tgs++cap.map (·.1)) scope s3.heap.objs.size s3 H3 fp) rfl rfl rfl hc i [] s5 _ H5 _ I5 (fpB fr5) st5 stop) λr s6 ⟨hr,I6⟩=>?_;subst hr;obtain⟨m6,n6,_⟩:=I6.loc;have IO:Inv X pins σ H5 s6:=Inv.leave (h2:=s6.heap) I3 f3 I6 ⟨rfl,λ_ _=>rfl⟩;have fC:eE X pins H5 s3.heap.objs.size:=⟨I6.free,(I3.fpOk (Qg _) (I3.hok.fresh (Qg _))).2⟩;obtain⟨f0,f1,f2',f3',f4,f5⟩:=fC;refine wpAny_assign_Name (ji IO hN hj hx (show aN (.ref DD) (.ref DD) from rfl) (λs7 I7 ⟨a,sb,ha⟩=>?_) hf)
   have na:s3.heap.objs.size≠a:=by
    rcases ha with z|z
    ·rw[z];exact f1
    exact λy=>f4 x a z y.symm
   obtain⟨o6,es6,ep6,ho6,r6⟩:=n6;refine⟨m6,⟨o6,es6,ep6,(sb.2 _ na).trans ho6,r6⟩,λh' hs'=>⟨_,H5,I7.turned (t':=s7.toks) (λb o hb q=>(hs'.2 b hb).trans q) f0 f1 f3' f4 f5,qd⟩⟩
  refine thn (T.item (X.block (tgs++cap.map (·.1)) scope s3.heap.objs.size s3 H3 fp) rfl rfl rfl hc i [] s5 _ H5 _ I5 (fpB fr5) st5 go) λr s6 ⟨u,hr,h6⟩=>?_;subst hr;refine thn h6 λ_ s7 ⟨x,H7,I7,r7,y7,st7,fr7⟩=>?_;have I7':=I7.pinned (fpB fr7) (T.obj _ _ st7)
  have again:∀{σ8:St} {H8:Hp} {s8:Shared} {ys8:List V},Inv (X.block (tgs++cap.map (·.1)) scope s3.heap.objs.size s3 H3 fp) ([]++f8 fp s7.heap) σ8 H8 s8->wk (bB tgs cap σ) σ8->(∃m',m'<n/\W (i+1) m' H8 ys8) ->
    ∃m,m<n/\∃i H' ys,Inv (X.block (tgs++cap.map (·.1)) scope s3.heap.objs.size s3 H3 fp) [] (bB tgs cap σ) H' s8/\tn i s8.heap/\(∀b∈fp,H' b=none)/\W i m H' ys:=λ{σ8 H8 s8 ys8} I8 k8 ⟨m',hm,w8⟩=>by
   refine⟨m',hm,i+1,H8,ys8,I8.unpinned.weak (jY k8) (jZ k8),T.keep _ _ _ st7 λb hb o e=>(I8.pin (b,o) (QI _ (QI _ (cF hb e)))).1,λb hb=>?_,w8⟩;obtain⟨o,e,d⟩:=T.obj _ _ st7 b hb;exact(I8.pin (b,o) (QI _ (QI _ (cF hb e)))).2.1
  refine thn (hg _ _ _ _ _ s7 _ H7 x u _ I7' r7 (step x H7 y7)) λ_ s8 ⟨σ8,H8,I8,k8,q8⟩=>?_;refine thn (ht _ _ _ _ _ s8 σ8 H8 _ I8 q8) λok s9 ⟨H9,I9,q9⟩=>?_
  cases ok with
  | false =>
   rw[Qn Qr]at q9 ⊢;exact again I9 k8 q9
  | true =>
  rw[Qs rfl]at q9 ⊢;refine thn (he _ _ _ _ _ s9 σ8 H9 _ I9 q9) λy sA ⟨yv,HA,IA,rA,hA,zA,qA⟩=>?_;exact thn (bn _ sA σ8 HA (.ref DD) [yv] (.ref DD) [y] (λv H'=>v=.non/\∃m',m'<n/\W (i+1) m' H' (ys++[yv])) IA rfl (.cons rA .nil) ⟨DD,ys,yv,rfl,rfl,hA,zA,rfl,qA⟩) λ_ sB ⟨_,HB,IB,_,_,qB⟩=>again IB k8 qB
 exact codeAny_compStart_list loop (T.self _ 0 _ _ _ st4 loop)
end
end L2
namespace L2
open PySem PySem.Spec PyProof.Rows
open AutoSeq1 (wpAny_loadPart')
section
variable {P:Program} {w:World} {A:Around} {E:A0} {s:Shared}
end
end L2
namespace L2
open PySem PySem.Spec PyProof.Rows
section
variable {P:Program} {w:World} {A:Around} {E:A0} {s:Shared}
end
end L2
namespace L2
open PySem PySem.Spec PyProof.Rows PySem.SeqAt PySem.MeetsSeq
open PySem.AutoSeq1 (wpAny_loadPart')
section
variable {X:Cx}
end
end L2
namespace L2
open PySem PySem.Spec PyProof.Rows
section
variable {X:Cx}
def sW:V->List V->Hp->VK->Prop:=λx vs H Q=>∃l xs y,∃i:Nat,x=.ref l/\vs=[.int i,y]/\i<=xs.length/\i<1000/\H l=some (.lst xs)/\xs.length<sizeLine/\Q .non (upd H l (.lst (xs.take i++y::xs.drop i)))
theorem lB {y:V} {u:Value} (ru:aN y u):∀{xs:List V} {its:List Value} (i:Nat),aQ xs its->aQ (xs.take i++y::xs.drop i) (its.take i++u::its.drop i)
 | _,_,0,r=>.cons ru r
 | _,_,i+1,.nil=>.cons ru .nil
 | _,_,i+1,.cons r1 r2=>.cons r1 (lB ru i r2)
theorem nZ:MtM X "list.insert" sW:=by
 intro pins s σ H x vs v us Q I rx rv h;obtain⟨l,xs,y,i,rfl,rfl,hi,hi2,hH,hz,q⟩:=h;cases rx;obtain⟨u1,u,rfl,ru1,ru⟩:=lC rv;obtain⟨t,rfl⟩:=ru1;obtain⟨z,its,n,r,hl,e⟩:=I.lstM hH
 have fi:¬(!Builtin.List.listFitsIndex (i:Int))=true:=by
  have this:Builtin.List.listFitsIndex (i:Int)=true:=by
   show (decide (-(2 ^ 63:Int)<=(i:Int))&&decide ((i:Int)<2 ^ 63))=true;rw[Qu (by omega),Qu (by omega)];rfl
  rw[this];exact λh=>nomatch h
 have hlen:=r.length;have hzz:its.toArray.size<=sizeLine:=by rw[Qk];omega
 generalize hk:(i:Int)=k at fi ⊢;refine call_meets F.slot_list_insert ⟨_,e,rfl⟩ F.entry_list_insert (F.args_list_insert_3 _ _ _) (PySem.AutoListH.list_insert_list_int_val_1 l its.toArray n k t u fi hzz) ⟨e,?_⟩;refine⟨.non,_,I.lset (its':=its.take i++u::its.drop i) hH e ?_ (lB ru i r) ?_,rfl,q⟩
 ·dsimp only
  have e1:(if k<0 then (k+((its.toArray.size:Nat):Int)).toNat else min k.toNat its.toArray.size)=i:=by
   rw[Qn (by omega),Qk];omega
  rw[e1];rw[<-Array.toList_inj];have e2:its.take its.length=its:=List.take_length;simp[List.extract_eq_drop_take,Q8]
 rw[Qi,Xm,QN,XB];omega
end
theorem oJ {K:PySem.W.Frag} {H1:Hp} {D:Addr} {σ0:St} {g:TG} {te:TE} {tt:TT} {QD:Hp->Prop} {a:Addr} {xs:List V} (Pv:Nat->Hp->List V->Prop) (h0:Pv 0 (upd H1 D (.lst [])) []) (hD:∀i H ys,Pv i H ys->H D=some (.lst ys)/\SqL K H a xs)
  (hs:∀i x H ys T,xs[i]?=some x->Pv i H ys->H T=none->g (.ref T) σ0 (upd H T (.tup [.int (i:Nat),x])) λσ2 H2=>wk σ0 σ2/\tt σ2 H2 λb H3=>if b=true then te σ2 H3 (eX Pv xs.length D i ys) else ∃m',m'<xs.length-i/\(m'=xs.length-(i+1)/\i+1<=xs.length/\Pv (i+1) H3 ys)) (hd:∀H ys,Pv xs.length H ys->QD H) :
  ∃W:Nat->Nat->Hp->List V->Prop,(∃m,W 0 m (upd H1 D (.lst [])) [])/\∀i m H ys,W i m H ys->H D=some (.lst ys)/\(((Ite K a).stop i H/\QD H)\/((Ite K a).go i H/\∀x H',(Ite K a).yld i H x H'->g x σ0 H' λσ2 H2=>wk σ0 σ2/\tt σ2 H2 λb H3 =>
   if b=true then te σ2 H3 λv H4=>H4 D=some (.lst ys)/\ys.length<sizeLine/\∃m',m'<m/\W (i+1) m' (upd H4 D (.lst (ys++[v]))) (ys++[v]) else ∃m',m'<m/\W (i+1) m' H3 ys)):=by
 refine⟨λi m H ys=>m=xs.length-i/\i<=xs.length/\Pv i H ys,⟨xs.length,by simp,QT _,h0⟩,?_⟩;rintro i m H ys ⟨rfl,hi,p⟩;obtain⟨d1,d2⟩:=hD i H ys p;refine⟨d1,?_⟩;by_cases hlt:i<xs.length
 ·refine .inr ⟨⟨xs,xs[i],d2,by simp[hlt]⟩,λx H' y=>?_⟩;obtain⟨T,v,hT,ex,eH,y⟩:=y;subst ex eH;exact hs i v H ys T (y xs d2) p hT
 have e:i=xs.length:=by exact om0 hi hlt
 subst e;exact .inl ⟨⟨xs,d2,Qg _⟩,hd H ys p⟩
end L2
namespace K2
open PySem L2
abbrev IvF:=Nat->St->Hp->Prop
abbrev IvC:=Nat->Hp->List V->Prop
abbrev IvJ:=St->Hp->Prop
variable {X:Cx}
theorem eL {K:PySem.W.Frag} (h:X.K=K):IxR X (sT K):=by subst h;exact ax
variable {Q:VK} {H H' H1 H2:Hp} {σ:St} {td ty tx tv tl:TE}
theorem v8 (q:td σ H λx H1=>∃a,x=.ref a/\IsD H1 a/\ty σ H1 λy H2=>tx σ H2 λz H3=>∃kvs k,H3 a=some (.dK kvs)/\y=kV k/\(∀v,aV kvs k=some v->Q v H3)/\(aV kvs k=none->kvs.length<sizeLine/\Q z (upd H3 a (.dK (bq kvs k z))))):r8 td ty tx σ H Q:=q
theorem fg {D:Ends} (q:tv σ H λv H1=>td σ H1 λx H2=>ty σ H2 λy H3=>∃a H4,x=.ref a/\fX H3 a y v H4/\D.nx σ H4):wQ td ty tv D σ H:=q
theorem zL (q:ty σ H λy H1=>td σ H1 λx H2=>∃a o,x=.ref a/\cN H2 a y o/\Q (.bl o.isSome) H2):yN ty td σ H Q:=q
theorem mN (q:ty σ H λy H1=>td σ H1 λx H2=>∃a o,x=.ref a/\cN H2 a y o/\Q (.bl (!o.isSome)) H2):pc ty td σ H Q:=q
theorem v9 (q:td σ H λx H1=>∃a,x=.ref a/\IsD H1 a/\ty σ H1 λy H2=>∃o,cN H2 a y o/\Q (o.getD .non) H2):r9 td ty σ H Q:=q
theorem yR {t:TS} {D:Ends} {a:Addr} {u:HO} (r:Rd H a u) (f:Fz u) (q:∀o,t (wG D H a o u) σ (upd H a (.frz o u))):yK t D σ H:=⟨a,u,r,f,q⟩
theorem vi {R:It->Hp->Prop} (q:tl σ H λx H1=>∃a o kvs,x=.ref a/\H1 a=some (.frz o (.dK kvs))/\R (Itd a o kvs) H1):uu tl σ H R:=q
theorem uk {K:PySem.W.Frag} (h:X.K=K):IxR X (sV K):=by subst h;exact aD
structure Txt (K:PySem.W.Frag) (mg:A2) (TT:Addr):Prop where
 n_len:mg "len" = none
 n_range:mg "range" = none
 n_max:mg "max" = none
 n_min:mg "min" = none
 n_int:mg "int" = none
 n_list:mg "list" = none
 n_str:mg "str" = none
 n_isinstance:mg "isinstance" = none
 n_all:mg "all" = none
 n_set:mg "set" = none
 n_dict:mg "dict" = none
 n_enumerate:mg "enumerate" = none
 n_sorted:mg "sorted" = none
 n_tuple:mg "tuple" = none
 n_bool:mg "bool" = none
 n_zip:mg "zip" = none
 n_reversed:mg "reversed" = none
 mNODES:∃t,mg "MOST_NODES" = some (.int 40 t)
 sA:∃a,mg "SIGNS_AHEAD" = some (.ref a)/\jg K a [("+", .flat (.str "0")),("-", .flat (.str "1"))]
 tURNED:mg "TURNED" = some (.ref TT)
 tab:jg K TT [("0", .flat (.str "1")),("1", .flat (.str "0"))]
structure Dk where
 d:Addr
 n:Nat
def Dk.more (D:Dk) (k:Nat):Dk:=⟨D.d,D.n+k⟩
def Dk.own (D:Dk) (b:Addr):Prop:=b=D.d
def Dk.At (D:Dk) (H:Hp):Prop:=∃a b c:Int,H D.d=some (.lst [.int a,.int b,.int c])/\0<=c/\c<=(D.n:Int)
structure Kp (D:Dk) (H H':Hp):Prop where
 old:∀b o,H b=some o->¬D.own b->H' b=some o
 dk:D.At H'
def fc:Sp:=λvs H Q _=>∃(D:Dk) (m:Int),vs=[.ref D.d,.int m]/\D.At H/\D.n<100000/\1<=m/\m<=100000/\∀(r:Int) H',0<=r->r<m->Kp (D.more 1) H H'->Q (.int r) H'
theorem w6 {D:Dk} {a b c:Int} (h0:0<=c) (h1:c<=(D.n:Int)):Kp D H (upd H D.d (.lst [.int a,.int b,.int c])):=⟨λb o e nb=>by rw[ah nb];exact e,⟨_,_,_,ag,h0,h1⟩⟩
def a9 (H H':Hp):Prop:=∀b xs,H b=some (.tup xs)->H' b=some (.tup xs)
theorem ak.tups (S:ak H H'):a9 H H':=λb xs e=>S b _ e
variable {D D':Dk}
theorem Dk.At.same {H':Hp} (S:ak H H') (h:D.At H):D.At H':=let ⟨a,b,c,e,l⟩:=h;⟨a,b,c,S _ _ e,l⟩
theorem Kp.of {D:Dk} (h:D.At H) (S:ak H H'):Kp D H H':=⟨λb o e _=>S b o e,h.same S⟩
theorem Kp.trans (a:Kp D H H1) (b:Kp D' H1 H2) (e:D.d=D'.d:=by rfl):Kp D' H H2:=⟨λc o h n=>b.old c o (a.old c o h (by unfold Dk.own at n ⊢;rw[e];exact n)) n,b.dk⟩
theorem Dk.At.le {D':Dk} (a:D.At H) (l:D.n<=D'.n) (e:D.d=D'.d:=by rfl):D'.At H:=by
 obtain⟨x,y,z,h,h0,h1⟩:=a;exact⟨x,y,z,by rw[<-e];exact h,h0,by omega⟩
theorem Kp.le {D':Dk} (a:Kp D H H') (l:D.n<=D'.n) (e:D.d=D'.d:=by rfl):Kp D' H H':=⟨λc o h n=>a.old c o h (by unfold Dk.own at n ⊢;rw[e];exact n),a.dk.le l e⟩
variable {o:HO} {b L l:Addr}
theorem io {D:Dk} (DA:D.At H) (h:H b=some o) (hi:∀xs,o=.lst xs->∀i:Int,V.int i∉xs):¬D.own b:=by
 obtain⟨x,y,z,e,_⟩:=DA;intro q;cases q;rw[e]at h;exact hi _ (QC h).symm x (by simp)
theorem Kp.tups {D:Dk} (DA:D.At H) (k:Kp D H H'):a9 H H':=λb xs e=>k.old b _ e (io DA e (λ_ z=>nomatch z))
theorem nV (ns:List Str):∀i:Int,V.int i∉ns.map V.str:=λi h=>by
 obtain⟨x,_,e⟩:=Ql.mp h;cases e
theorem nW {xs:List V} (h:∀x∈xs,∃a,x=V.ref a):∀i:Int,V.int i∉xs:=λi hi=>by
 obtain⟨a,e⟩:=h _ hi;cases e
theorem Kp.fresh {o:HO} (DA:D.At H) (hL:H L=none) (k:Kp D H H'):Kp D H (upd H' L o):=by
 obtain⟨a0,b0,c0,e0,_⟩:=DA;obtain⟨a,b,c,e,l⟩:=k.dk;exact⟨λb u e nb=>by rw[ah (aq e hL)];exact k.old b u e nb,⟨a,b,c,by rw[ah (aq e0 hL)];exact e,l⟩⟩
theorem Kp.new {p:Addr} (k:Kp D H H') (hp:H' p=none):Kp D H (upd H' p o):=k.trans (Kp.of k.dk (ar hp))
theorem Kp.free (k:Kp D H H') (h:H' l=none):H l=none:=by
 cases e:H l with
 | none=>rfl
 | some o =>
 exfalso;by_cases c:D.own l
 ·obtain⟨a,b,z,q,_⟩:=k.dk;cases c;rw[q]at h;cases h
 rw[k.old l o e c]at h;cases h
theorem aC {D:Dk} {p:Addr} (DA:D.At H) (hp:H p=none):¬D.own p:=λz=>by
 obtain⟨a,b,c,e,_⟩:=DA;cases z;rw[e]at hp;cases hp
structure StOk (n:Nat) (z:Str):Prop where
 len:z.cps.size=n
 signs:∀c∈z.cps.toList,c=48\/c=49
theorem nQ {K:PySem.W.Frag} (h:X.K=K):OpR X (compareOp .In) (rIn K false):=by subst h;exact ga
variable {es a:List Expr}
theorem kz {K:PySem.W.Frag} {k:Nat} {t:TGs} {n:Nat} {pos:Pos} (hK:X.K=K) (hc:X.calm=true) (h:PGs X es t)
  (hn:(assignEach es X.env).length=n:=by rfl) (hst:(assignEach es X.env).findIdx? (·.1)=none:=by rfl):PG X (.Tuple es k pos) (zO K n t):=by subst hK;exact fh hc h hn hst
theorem dj {A B:TS} {D:Ends} (J:St->Hp->Prop) (h:∀(R:St->Hp->Prop),(∀σ H,J σ H->R σ H)->A { D with nx:=R } σ H) (hJ:∀σ H,J σ H->B D σ H):u_ A B D σ H:=h (B D) hJ
variable {env:Env}
theorem se_tup {n:Nat} {p:Pos}:starEach (.Tuple a n p::es) env=(false,eval (.Tuple a n p) env)::starEach es env:=by rfl
theorem se_lst {p:Pos}:starEach (.List a p::es) env=(false,eval (.List a p) env)::starEach es env:=by rfl
theorem aM {f:Expr} {k:List Keyword} {p:Pos}:starEach (.Call f a k p::es) env=(false,eval (.Call f a k p) env)::starEach es env:=by rfl
theorem ay {c:Const} {n:Nat} {p:Pos}:starEach (.Constant c n p::es) env=(false,eval (.Constant c n p) env)::starEach es env:=by rfl
theorem ae {x:Str} {p:Pos}:starEach (.Name x p::es) env=(false,eval (.Name x p) env)::starEach es env:=by rfl
theorem se_bin {a b:Expr} {o:Operator} {p:Pos}:starEach (.BinOp a o b p::es) env=(false,eval (.BinOp a o b p) env)::starEach es env:=by rfl
theorem se_sub {a b:Expr} {p:Pos}:starEach (.Subscript a b p::es) env=(false,eval (.Subscript a b p) env)::starEach es env:=by rfl
theorem aG {a:Addr} (h1:H a=some o) (h2:H b=none):b≠a:=λz=>by rw[z,h1]at h2;cases h2
theorem aU {α β:Type} {F:α->β->Prop}:∀{xs:List α} {ys:List β} {x:α} {y:β},Paired F xs ys->F x y->Paired F (xs++[x]) (ys++[y])
 | _,_,_,_,.nil,h=>.cons h .nil
 | _,_,_,_,.cons h t,g=>.cons h (aU t g)
theorem ad {α β:Type} {F G:α->β->Prop} (h:∀a b,F a b->G a b):∀{xs:List α} {ys:List β},Paired F xs ys->Paired G xs ys
 | _,_,.nil=>.nil
 | _,_,.cons a t=>.cons (h _ _ a) (ad h t)
theorem paired_get {α β:Type} {F:α->β->Prop}:∀{xs:List α} {ys:List β} {i:Nat} {x:α},Paired F xs ys->xs[i]?=some x->∃y,ys[i]?=some y/\F x y
 | _,_,_,_,.nil,e=>by simp at e
 | _,_,0,_,.cons r _,e=>by simp at e;subst e;exact⟨_,rfl,r⟩
 | _,_,i+1,x,.cons _ t,e=>by
  obtain⟨u,h1,h2⟩:=paired_get (i:=i) (x:=x) t (by simpa using e);exact⟨u,by simpa using h1,h2⟩
theorem aX {α β:Type} {F:α->β->Prop}:∀{xs:List α} {ys:List β} {i:Nat} {y:β},Paired F xs ys->ys[i]?=some y->∃x,xs[i]?=some x/\F x y
 | _,_,_,_,.nil,e=>by simp at e
 | _,_,0,_,.cons r _,e=>by simp at e;subst e;exact⟨_,rfl,r⟩
 | _,_,i+1,y,.cons _ t,e=>by
  obtain⟨u,h1,h2⟩:=aX (i:=i) (y:=y) t (by simpa using e);exact⟨u,by simpa using h1,h2⟩
theorem ifT {c:Bool} {A B:Prop} (hc:c=true) (h:A):if c=true then A else B:=by rw[Qs hc];exact h
theorem ifF {c:Bool} {A B:Prop} (hc:c=false) (h:B):if c=true then A else B:=by subst hc;exact iteF h
theorem bO {D:Addr} (S:ak H H') (hD:H D=none):ak H (upd H' D o):=λb u e=>by rw[ah (aq e hD)];exact S b u e
theorem aj {p:Addr} (h:H p=none) (e:upd H p o=H'):ak H H'/\H' p=some o:=by
 subst e;exact⟨ar h,ag⟩
theorem am {α β:Type} {F:α->β->Prop}:∀{xs:List α} {ys:List β},Paired F xs ys->xs.length=ys.length
 | _,_,.nil=>rfl
 | _,_,.cons h t=>by simp[am t]
theorem pQ {K:PySem.W.Frag} (h:X.K=K) (hu:X.A.units+64<cLine):OpR X (compareOp .Eq) (sX K false):=by subst h;exact kB hu
theorem vz {K:PySem.W.Frag} (h:X.K=K) (hu:X.A.units+64<cLine):OpR X (compareOp .In) (xG K false):=by subst h;exact xT hu
end K2
namespace K2
open PySem L2
abbrev SqLofQ:=@SqL.of
abbrev i_ixLQ:=@bj
abbrev i_nilQ:=@bo
abbrev i_varQ:=@aP
abbrev pa_consQ:=@aa
abbrev pa_nilQ:=@ac
abbrev pe_intQ:=@af
abbrev pe_lstQ:=@a_
abbrev pe_strQ:=@aI
abbrev pe_tupQ:=@be
abbrev s_nameQ:=@aA
abbrev se_callQ:=@aM
abbrev se_conQ:=@ay
abbrev se_nameQ:=@ae
local macro_rules | `(tactic| walk_at "vc") => `(tactic| first
 | ((refine' (?zz : (?zA → ?zG) → ?zA → ?zG) ?zr ?_); (case zr => with_reducible exact s_seqT); (case zz => exact fun _ q => q); intro D') | ((refine' (?zz : (?zA → ?zG) → ?zA → ?zG) ?zr ?_); (case zr => with_reducible first | exact s_asg | exact s_drop | exact s_ret | exact s_if | exact s_sub | exact s_next | exact i_c | exact i_op | exact i_test | exact i_tB | exact i_and | exact i_or | exact i_not | exact i_andV | exact i_orV | exact i_notV | exact i_ifE | exact i_nilQ | exact i_cons | exact i_cb | exact i_tup | exact i_lst | exact i_bm | exact i_sl | exact i_nopart | exact i_part | exact s_for | exact s_rng1 | exact s_list | exact s_str | exact i_dget | exact i_yes | exact i_un); (case zz => exact fun _ q => q))   | (with_reducible refine s_nameQ ?_)
 | ((with_reducible refine' i_varQ ?hv ?_); (case hv => exact rfl))   | (with_reducible first | refine i_rI0 ?_ | refine i_call ?_ | refine s_strI ?_ | refine iteF ?_ | refine iteT ?_ | refine i_rU ?_)
 | ((with_reducible show ∃ i, V.int _ = V.int i ∧ _); (refine ⟨_, rfl, ?_⟩)) | ((with_reducible show ∃ k, V.bl _ = V.bl k ∧ _); (refine ⟨_, rfl, ?_⟩)) | ((with_reducible show (∃ i, [V.bl _] = [V.int i] ∧ _) ∨ _); (refine Or.inr ⟨_, rfl, ?_⟩))
 | ((with_reducible refine' i_ixLQ ?ha ?hb ?_); (case ha => exact SqLofQ (by assumption)); (case hb => exact rfl)) | ((with_reducible refine' i_ixT ?ha ?hb ?_); (case ha => assumption); (case hb => exact rfl))
 | ((with_reducible show ∃ p _, [V.ref _] = [V.ref p] ∧ (SqL _ _ _ _ ∨ SqT _ _ _ _) ∧ _); (refine' ⟨_, _, rfl, Or.inl (SqLofQ ?ha), ?_⟩); (case ha => assumption)) | ((with_reducible refine' s_setL ?ha ?hb ?_); (case ha => assumption); (case hb => exact rfl))
 | ((with_reducible refine' i_eq ?ha ?_); (case ha => exact rfl)) | ((with_reducible refine' i_ne ?ha ?_); (case ha => exact rfl))
 | ((with_reducible show ∃ z, V.str _ = V.str z ∧ _); (refine ⟨_, rfl, ?_⟩))
 | ((with_reducible refine' i_rI ?hv ?_); (case hv => first | decide | (dsimp only; omega) | exact .inl ⟨by omega, by omega⟩ | exact .inr ⟨by omega, by omega⟩ | exact ⟨by decide, by decide⟩ | exact ⟨by decide, by decide, by decide⟩ | exact ⟨by omega, by omega⟩))
 | ((with_reducible show ∃ i, [V.int _] = [V.int i] ∧ _); (refine ⟨_, rfl, ?_⟩))
 | ((with_reducible show tyV _ "list" _ _ ∧ _); (refine' ⟨i_tyL ?ha, ?_⟩); (case ha => assumption)))
local macro_rules | `(tactic| walk_at "p") => `(tactic| repeat' (with_reducible first | (refine' pss_one ?_; rotate_left 1) | (refine' pss_cons ?_ ?_; rotate_left 2) | exact pss_nil | (refine' ps_if ?_ ?_ ?_; rotate_left 3)))
local macro_rules | `(tactic| walk_at "b") => `(tactic| (refine' pss_cons ?_ ?_; rotate_left 2; walk_at "p"))
local macro_rules | `(tactic| walk_at "f") => `(tactic| (refine' ps_for PassesOwn.never rfl ?_ ?_ ?_ (fun _ => rfl); rotate_left 3))
local macro_rules | `(tactic| walk_at "q") => `(tactic| repeat' (with_reducible first | exact pe_strQ | exact pe_intQ | exact pa_nilQ | (refine' pe_tupQ ?_; rotate_left 1) | (refine' pe_lstQ ?_; rotate_left 1) | (refine' pa_consQ ?_ ?_ se_conQ; rotate_left 2) | (refine' pa_consQ ?_ ?_ se_tup; rotate_left 2) | (refine' pa_consQ ?_ ?_ se_nameQ; rotate_left 2) | (refine' pa_consQ ?_ ?_ se_sub; rotate_left 2) | (refine' pa_consQ ?_ ?_ se_bin; rotate_left 2) | (refine' pa_consQ ?_ ?_ se_lst; rotate_left 2) | (refine' pa_consQ ?_ ?_ se_callQ; rotate_left 2) | (refine' pa_consQ ?_ ?_ se_lc; rotate_left 2)))
local macro_rules | `(tactic|room) => `(tactic| (intro vs H Q E h; repeat (first | (obtain ⟨e, _⟩ := h; subst e; rfl) | (obtain ⟨_, h⟩ := h))))
local macro_rules | `(tactic|x_go) => `(tactic| ((try dsimp only [cxOf, Cx.nox, Cx.wish]); (conv in (L2.start _ _) => simp only [L2.start, Qx, List.map_nil, Xm, List.length_nil, List.replicate_succ, List.replicate_zero, List.cons_append, List.nil_append, Nat.reduceAdd, Nat.reduceSub]); have big : 100000 < sizeLine := by decide))
local macro_rules | `(tactic|kt_k) => `(tactic| (with_reducible first | refine s_seq ?_ | refine s_if ?_ | refine s_next ?_ | refine i_or ?_ | refine s_nameQ ?_ | refine s_ret ?_))
local macro_rules|`(tactic|lk)=>`(tactic|repeat walk_at "vc")
local macro_rules|`(tactic|fin2)=>`(tactic|exact⟨rfl,rfl,rfl,by decide +kernel,rfl,by decide +kernel,by decide +kernel⟩)
def sg (b:Bool):V:=if b then .str "1" else .str "0"
variable {i n c j:Nat} {z y wd:Str}
theorem pA (st:StOk n z) (hi:i<n):jm z i=sg (z.cps.getD i 0==49):=by
 have hl:=st.len;have e:z.cps.getD i 0=z.cps[i]'(by omega):=by simp[Array.getD,hl,hi]
 have:z.cps.getD i 0=48\/z.cps.getD i 0=49:=by
  rw[e];exact st.signs _ (by simp)
 unfold jm;rcases this with e|e
 ·rw[e];decide +kernel
 rw[e];decide +kernel
def dw (z:Str) (i:Nat):Str:=if (z.cps.getD i 0==49)=true then "0" else "1"
def cA (z:Str) (i:Nat):Str:=(Txt.slice z none (some (i:Int))++dw z i)++Txt.slice z (some ((i:Int)+1)) none
def gN:Sp:=λvs H Q _=>∃(z:Str) (n i:Nat),vs=[.str z,.int (i:Int)]/\StOk n z/\i<n/\n<=11/\Q (.str (cA z i)) H
variable {P:Program} {w:World} {K:PySem.W.Frag} {mg:A2} {base:Heap} {TT:Addr}
section
theorem qu {n:Nat} {z:Str} (st:StOk n z) {i:Nat} (hi:i<n):atI z.cps.toList ((i:Nat):Int)=some (z.cps.getD i 0):=by
 have hl:=st.len;refine aY ?_;simp[Array.getD,hl,hi]
theorem kg:FnScope ["standing", "place"] ["standing", "place"] (aw (top 2)):=by fin2
theorem qR {f:Addr} {fd:FuncData} (Fu:Fun K "turned_at" "turned_at" (top 2) f fd) (T:Txt K mg TT):FnOk P w K mg base CX0 1 f fd ["standing", "place"] gN:=by
 have S:=kg;refine Fu.ok S (by room) (λcdv A outer s H vs Q E hr h=>?_);obtain⟨z,n,i,rfl,st,hi,hn,k⟩:=h;refine⟨_,(pss_one (aW (aO b9 (aO b9 (cx gS (pv 0) cR (cQ (pv 1))) (ao (vW T.tab) (kA (v:=.ref TT) (by rfl) T.tURNED rfl) (ao dJ (pv 0) (pv 1)))) (cx gS (pv 0) (cQ (aO bX (pv 1) af)) cR)))),?_⟩;x_go;have hz:z.length=n:=st.len;have big:1000<sizeLine:=by decide
 lk;have s1:=Txt.slice_le z none (some (i:Int));have s2:=Txt.slice_le z (some ((i:Int)+1)) none
 have fl:(dw z i).length=1:=by
  unfold dw
  split
  ·decide +kernel
  decide +kernel
 refine mM (by omega) ?_;refine i_op (i_c ?_);refine i_op (aP rfl (aP rfl (fS (by omega) (qu st hi) ?_)));have e:=pA st hi;unfold jm at e;rw[e]
 have step:∀(b:Bool) (G:VK),G (.str (if b=true then "0" else "1")) H->pF TT (.ref TT) (sg b) H G:=λb G g=>by
  cases b
  ·exact⟨rfl,.inl ⟨rfl,g⟩⟩
  exact⟨rfl,.inr ⟨rfl,g⟩⟩
 refine step _ _ ?_;show ∃i_1 j,V.str _=V.str i_1/\V.str (dw z i)=V.str j/\_;have l1:(Txt.slice z none (some (i:Int))++dw z i).length=(Txt.slice z none (some (i:Int))).length+(dw z i).length:=Array.size_append;refine⟨_,_,rfl,rfl,by omega,?_⟩;lk;refine mM (by omega) ?_;exact⟨_,_,rfl,rfl,by rw[l1];omega,k⟩
end
theorem iH {xs:Array Nat}:∀(j a:Nat),a+j<=xs.size->((List.range j).map λk=>a+k).filterMap (xs[·]?)=(xs.toList.drop a).take j
 | 0,a,_=>by simp
 | j+1,a,h=>by
  rw[X5,QZ,List.filterMap_append,iH j a (by omega),XI];have e:(xs.toList.drop a)[j]?=xs[a+j]?:=by rw[List.getElem?_drop];simp
  rw[e];have q:xs[a+j]?=some (xs[a+j]'(by omega)):=by rw[QL]
  simp[q]
theorem gR {a b:Nat} {lo hi:Option Int} (hl:PySem.Builtin.Str.strSliceIndices lo hi 1 z.length=(List.range (b-a)).map λk=>a+k) (hb:b<=z.cps.size) (hab:a<=b):(Txt.slice z lo hi).cps.toList=(z.cps.toList.drop a).take (b-a):=by
 unfold Txt.slice;rw[hl]
 split
 ·rename_i h
  have h:b-a=z.length:=by simpa using h
  have h':z.length=z.cps.size:=rfl;have a0:a=0:=by omega
  subst a0;rw[List.drop_zero,Q8 (by rw[Qm];omega)]
 exact iH (b-a) a (by omega)
theorem fF {z:Str} {j:Nat} (h:j<=z.cps.size):(Txt.slice z none (some (j:Int))).cps.toList=z.cps.toList.take j:=by
 have h':z.length=z.cps.size:=rfl;refine(gR (a:=0) (b:=j) ?_ h (QT _)).trans (by simp);unfold PySem.Builtin.Str.strSliceIndices sliceRange
 have e:max 0 (min (if (j:Int)<0 then (j:Int)+z.length else (j:Int)) (z.length:Int))=(j:Int):=by
  rw[Qn (Int.not_lt.mpr (Int.natCast_nonneg _)),Int.min_eq_left (show _<=(z.length:Int) from Int.ofNat_le.mpr h),Int.max_eq_right (Int.natCast_nonneg _)]
 simp only[show (1:Int)>0 from by decide,if_true,e]
 have c:(if (0:Int)<(j:Int) then ((j:Int)-0+1-1) / 1 else 0).toNat=j-0:=by
  rw[Int.ediv_one,Int.add_sub_cancel,Int.sub_zero,Nat.sub_zero]
  split
  ·rfl
  omega
 rw[c];refine XJ λk _=>?_;omega
theorem ff {z:Str} {a:Nat} (h:a<=z.cps.size):(Txt.slice z (some (a:Int)) none).cps.toList=z.cps.toList.drop a:=by
 have h':z.length=z.cps.size:=rfl;refine(gR (a:=a) (b:=z.cps.size) ?_ (Qg _) h).trans (by rw[Q8 (by rw[XB,Qm];omega)]);unfold PySem.Builtin.Str.strSliceIndices sliceRange
 have e:max 0 (min (if (a:Int)<0 then (a:Int)+z.length else (a:Int)) (z.length:Int))=(a:Int):=by
  rw[Qn (Int.not_lt.mpr (Int.natCast_nonneg _)),Int.min_eq_left (show _<=(z.length:Int) from Int.ofNat_le.mpr h),Int.max_eq_right (Int.natCast_nonneg _)]
 simp only[show (1:Int)>0 from by decide,if_true,e]
 have c:(if (a:Int)<(z.length:Int) then ((z.length:Int)-(a:Int)+1-1) / 1 else 0).toNat=z.cps.size-a:=by
  rw[Int.ediv_one,Int.add_sub_cancel,h']
  split
  ·rw[<-Int.ofNat_sub h];rfl
  omega
 rw[c];refine XJ λk _=>?_;omega
theorem cP (st:StOk n z) (hi:i<n):StOk n (cA z i):=by
 have hl:=st.len;have a:=fF (z:=z) (j:=i) (by omega);have b:=ff (z:=z) (a:=i+1) (by omega);rw[show ((i+1:Nat):Int)=(i:Int)+1 from by omega]at b
 have f:(dw z i).cps.toList=[48]\/(dw z i).cps.toList=[49]:=by
  unfold dw
  split
  ·exact .inl (by decide +kernel)
  exact .inr (by decide +kernel)
 have e:(cA z i).cps.toList=(z.cps.toList.take i++(dw z i).cps.toList)++z.cps.toList.drop (i+1):=by
  unfold cA;show ((_++_)++_:Array Nat).toList=_;rw[Array.toList_append,Array.toList_append,a,b]
 refine⟨?_,λc hc=>?_⟩
 ·rw[<-Qm,e,Qi,Qi,QN,XB,Qm];have:(dw z i).cps.toList.length=1:=by rcases f with f|f <;> rw[f] <;> rfl
  omega
 rw[e]at hc;rcases Qz.mp hc with h|h
 ·rcases Qz.mp h with h|h
  ·exact st.signs c (List.mem_of_mem_take h)
  rcases f with f|f
  ·rw[f]at h;exact .inl (by simpa using h)
  rw[f]at h;exact .inr (by simpa using h)
 exact st.signs c (List.mem_of_mem_drop h)
theorem turn_list (st:StOk n z) (hi:i<n):(cA z i).cps.toList=z.cps.toList.take i++(if (z.cps.getD i 0==49)=true then 48 else 49)::z.cps.toList.drop (i+1):=by
 have hl:=st.len;have a:=fF (z:=z) (j:=i) (by omega);have b:=ff (z:=z) (a:=i+1) (by omega);rw[show ((i+1:Nat):Int)=(i:Int)+1 from by omega]at b
 have f:(dw z i).cps.toList=[if (z.cps.getD i 0==49)=true then 48 else 49]:=by
  unfold dw
  split
  ·decide +kernel
  decide +kernel
 unfold cA;show ((_++_)++_:Array Nat).toList=_;rw[Array.toList_append,Array.toList_append,a,b,f];simp
variable {b l a li lo L nl N ln T TL:Addr} {H H' H1 H2 H0 H'':Hp}
theorem bJ (S:ak H H') (h:H' b=none):H b=none:=by
 cases e:H b with
 | none=>rfl
 | some o=>rw[S b o e]at h;cases h
theorem bU {D:Addr} {xs:List V} {o:HO} (h:H D=some (.lst xs)):a9 H (upd H D o):=λb ys e=>by
 rw[ah (λz=>by rw[z,h]at e;cases e)];exact e
section
variable {α β:Type} {K:PySem.W.Frag} {J:It} {H1:Hp} {D:Addr} {σ0:St} {g:TG} {te:TE} {tt:L2.TT} {QD:Hp->Prop}
theorem cm (xs:List α) (c:α->Bool) (R:Hp->V->α->Prop) (hD:H1 D=none) (few:xs.length<=100000) (mono:∀H H' v x,a9 H H'->R H v x->R H' v x)
  (go:∀i H,ak H1 H->i<xs.length->J.go i H) (stop:∀H,ak H1 H->J.stop xs.length H)
  (hs:∀i x H v H',xs[i]?=some x->ak H1 H->J.yld i H v H'->∀(G:V->Hp->Prop) (N:Hp->Prop),(c x=true->∀u H2,ak H H2->R H2 u x->G u H2)->(c x=false->∀H2,ak H H2->N H2)->g v σ0 H' λσ2 H2=>wk σ0 σ2/\tt σ2 H2 λb H3=>if b=true then te σ2 H3 G else N H3)
  (hd:∀H ys,ak H1 H->H D=some (.lst ys)->Paired (R H) ys (xs.filter c)->QD H) :
  ∃W:Nat->Nat->Hp->List V->Prop,(∃m,W 0 m (upd H1 D (.lst [])) [])/\∀i m H ys,W i m H ys->H D=some (.lst ys)/\((J.stop i H/\QD H)\/(J.go i H/\∀x H',J.yld i H x H'->g x σ0 H' λσ2 H2=>wk σ0 σ2/\tt σ2 H2 λb H3 =>
   if b=true then te σ2 H3 λv H4=>H4 D=some (.lst ys)/\ys.length<sizeLine/\∃m',m'<m/\W (i+1) m' (upd H4 D (.lst (ys++[v]))) (ys++[v]) else ∃m',m'<m/\W (i+1) m' H3 ys)):=by
 refine⟨λi m H ys=>m=xs.length-i/\i<=xs.length/\ak H1 H/\H D=some (.lst ys)/\Paired (R H) ys ((xs.take i).filter c),⟨_,rfl,QT _,ar hD,ag,by rw[List.take_zero];exact .nil⟩,?_⟩;rintro i m H ys ⟨rfl,hi,S,hy,p⟩;refine⟨hy,?_⟩;by_cases hl:i<xs.length
 ·refine .inr ⟨go i H S hl,λv H' y=>?_⟩;have ex:xs[i]?=some xs[i]:=Qb hl;have hm:xs.length-(i+1)<xs.length-i:=by omega
  refine hs i xs[i] H v H' ex S y _ _ (λct u H2 S2 r=>?_) (λcf H2 S2=>?_)
  ·have yl:ys.length<=xs.length:=by
    rw[am p];refine QQ (List.length_filter_le _ _) ?_;rw[QN];omega
   have hy2:=S2 _ _ hy;have kt:=bU (o:=.lst (ys++[u])) hy2;refine⟨hy2,XO yl (XO few (by decide)),_,hm,rfl,hl,bO (S.trans S2) hD,ag,?_⟩;rw[XI,ex,List.filter_append];have e:(some xs[i]).toList.filter c=[xs[i]]:=by simp[ct]
   rw[e];exact aU (ad (λv x r=>mono _ _ v x kt (mono _ _ v x (ak.tups S2) r)) p) (mono _ _ u _ kt r)
  refine⟨_,hm,rfl,hl,S.trans S2,S2 _ _ hy,?_⟩;rw[XI,ex,List.filter_append];have e:(some xs[i]).toList.filter c=[]:=by simp[cf]
  rw[e,XG];exact ad (λv x r=>mono _ _ v x (ak.tups S2) r) p
 obtain rfl:i=xs.length:=by omega
 rw[Q8 (Qg _)]at p;exact .inl ⟨stop H S,hd H ys S hy p⟩
variable {vs:List V} {a b:Addr}
theorem eN {xs:List α} {I:V->α->Prop} (c:α->Bool) (R:Hp->V->α->Prop) (hD:H1 D=none) (e:H1 a=some (.lst vs)) (pa:Paired I vs xs) (few:xs.length<=100000) (mono:∀H H' v x,a9 H H'->R H v x->R H' v x)
  (hs:∀v x H,I v x->x∈xs->ak H1 H->∀(G:V->Hp->Prop) (N:Hp->Prop),(c x=true->∀u H2,ak H H2->R H2 u x->G u H2)->(c x=false->∀H2,ak H H2->N H2)->g v σ0 H λσ2 H2=>wk σ0 σ2/\tt σ2 H2 λb H3=>if b=true then te σ2 H3 G else N H3)
  (hd:∀H ys,ak H1 H->H D=some (.lst ys)->Paired (R H) ys (xs.filter c)->QD H) :
  ∃W:Nat->Nat->Hp->List V->Prop,(∃m,W 0 m (upd H1 D (.lst [])) [])/\∀i m H ys,W i m H ys->H D=some (.lst ys)/\(((Itl K a).stop i H/\QD H)\/((Itl K a).go i H/\∀x H',(Itl K a).yld i H x H'->g x σ0 H' λσ2 H2=>wk σ0 σ2/\tt σ2 H2 λb H3 =>
   if b=true then te σ2 H3 λv H4=>H4 D=some (.lst ys)/\ys.length<sizeLine/\∃m',m'<m/\W (i+1) m' (upd H4 D (.lst (ys++[v]))) (ys++[v]) else ∃m',m'<m/\W (i+1) m' H3 ys)):=by
 have l:=am pa;refine cm xs c R hD few mono (λi H S hi=>⟨vs,vs[i],SqL.of (S _ _ e),Qb _⟩) (λH S=>⟨vs,SqL.of (S _ _ e),by omega⟩) (λi x H v H' ex S y=>?_) hd;obtain⟨e',y⟩:=y;subst e';obtain⟨v',ev,r⟩:=aX pa ex;cases ev.symm.trans (y vs (SqL.of (S _ _ e)));exact hs v x _ r (Qh ex) S
theorem gt {xs:List α} {us:List β} {i:Nat} {x:α} {u:β} (h1:xs[i]?=some x) (h2:us[i]?=some u):(xs.zip us)[i]?=some (x,u):=by
 rw[XU];exact⟨h1,h2⟩
def Sqv (t:Bool) (H:Hp) (a:Addr) (vs:List V):Prop:=if t=true then H a=some (.tup vs) else H a=some (.lst vs)
theorem Sqv.of {t:Bool} {H:Hp} (h:Sqv t H a vs):SqS t K H a vs:=by
 cases t with
 | true=>exact SqT.of h
 | false=>exact SqL.of h
theorem Sqv.same {t:Bool} {H H':Hp} (S:ak H H') (h:Sqv t H a vs):Sqv t H' a vs:=by
 cases t with
 | true=>exact S _ _ h
 | false=>exact S _ _ h
theorem uP {t1 t2:Bool} {ws:List V} {xs:List α} {us:List β} {I1:V->α->Prop} {I2:V->β->Prop} (c:α × β->Bool) (R:Hp->V->α × β->Prop) (hD:H1 D=none) (e1:Sqv t1 H1 a vs) (e2:Sqv t2 H1 b ws) (p1:Paired I1 vs xs) (p2:Paired I2 ws us) (hl:xs.length=us.length) (few:xs.length<=100000) (mono:∀H H' v x,a9 H H'->R H v x->R H' v x)
  (hs:∀v x w u T H,I1 v x->I2 w u->(x,u)∈xs.zip us->ak H1 H->H T=some (.tup [v,w])->∀(G:V->Hp->Prop) (N:Hp->Prop),(c (x,u)=true->∀y H2,ak H H2->R H2 y (x,u)->G y H2)->(c (x,u)=false->∀H2,ak H H2->N H2)->g (.ref T) σ0 H λσ2 H2=>wk σ0 σ2/\tt σ2 H2 λb H3=>if b=true then te σ2 H3 G else N H3)
  (hd:∀H ys,ak H1 H->H D=some (.lst ys)->Paired (R H) ys ((xs.zip us).filter c)->QD H) :
  ∃W:Nat->Nat->Hp->List V->Prop,(∃m,W 0 m (upd H1 D (.lst [])) [])/\∀i m H ys,W i m H ys->H D=some (.lst ys)/\(((uX t1 t2 K a b).stop i H/\QD H)\/((uX t1 t2 K a b).go i H/\∀x H',(uX t1 t2 K a b).yld i H x H'->g x σ0 H' λσ2 H2=>wk σ0 σ2/\tt σ2 H2 λb H3 =>
   if b=true then te σ2 H3 λv H4=>H4 D=some (.lst ys)/\ys.length<sizeLine/\∃m',m'<m/\W (i+1) m' (upd H4 D (.lst (ys++[v]))) (ys++[v]) else ∃m',m'<m/\W (i+1) m' H3 ys)):=by
 have l1:=am p1;have l2:=am p2;have lz:(xs.zip us).length=xs.length:=by rw[List.length_zip];omega
 refine cm (xs.zip us) c R hD (by omega) mono (λi H S hi=>⟨⟨vs,vs[i],(e1.same S).of,Qb _⟩,ws,ws[i],(e2.same S).of,Qb _⟩) (λH S=>⟨vs,(e1.same S).of,by omega⟩) (λi x H v H' ex S y=>?_) hd;obtain⟨T,v',w',hT,ex',eH,y1,y2⟩:=y;subst ex' eH;obtain⟨x,u⟩:=x;obtain⟨g1,g2⟩:=XU.mp ex;obtain⟨v1,ev1,r1⟩:=aX p1 g1;obtain⟨w1,ew1,r2⟩:=aX p2 g2;cases ev1.symm.trans (y1 vs (e1.same S).of);cases ew1.symm.trans (y2 ws (e2.same S).of);intro G N hG hN;have ST:=ar (o:=.tup [v',w']) hT;exact hs v' x w' u T _ r1 r2 (Qh ex) (S.trans ST) ag G N (λct y H2 S2 r=>hG ct y H2 (ST.trans S2) r) (λcf H2 S2=>hN cf H2 (ST.trans S2))
end
abbrev Tu:=Str × Str
structure Arc where
 one:Tu
 two:Tu
 mark:Int
structure Rg where
 ins:List Str
 outs:List Str
 z:Str
 arcs:List Arc
def Rg.ws (r:Rg):List Str:=r.ins++r.outs
def ca (ws:List Str) (t:Tu):Prop:=t.1∈ws/\(t.2 = "+" \/ t.2 = "-")
structure ArOk (ws:List Str) (a:Arc):Prop where
 o:ca ws a.one
 t:ca ws a.two
 ne:a.one≠a.two
 m:a.mark=0\/a.mark=1
structure RgOk (r:Rg):Prop where
 nd:r.ws.Nodup
 w1:1<=r.ws.length
 w5:r.ws.length<=5
 st:StOk r.ws.length r.z
 few:r.arcs.length<=1000
 arcs:∀a∈r.arcs,ArOk r.ws a
def TuA (H:Hp) (v:V) (t:Tu):Prop:=∃b,v=.ref b/\H b=some (.tup [.str t.1,.str t.2])
def ArA (H:Hp) (v:V) (a:Arc):Prop:=∃b v1 v2,v=.ref b/\H b=some (.tup [v1,v2,.int a.mark])/\TuA H v1 a.one/\TuA H v2 a.two
variable {v u:V}
theorem TuA.kt {t:Tu} (k:a9 H H') (h:TuA H v t):TuA H' v t:=let ⟨b,e,q⟩:=h;⟨b,e,k _ _ q⟩
theorem ArA.kt {a:Arc} (k:a9 H H') (h:ArA H v a):ArA H' v a:=let ⟨b,v1,v2,e,q,h1,h2⟩:=h;⟨b,v1,v2,e,k _ _ q,h1.kt k,h2.kt k⟩
structure ArsA (H:Hp) (l:Addr) (vs:List V) (as:List Arc):Prop where
 h:H l=some (.lst vs)
 p:Paired (ArA H) vs as
variable {as:List Arc} {vs ov:List V}
theorem ArsA.same {H':Hp} (S:ak H H') (h:ArsA H l vs as):ArsA H' l vs as:=⟨S _ _ h.h,ad (λ_ _ q=>q.kt (ak.tups S)) h.p⟩
structure RgA (H:Hp) (a li lo l:Addr) (vs:List V) (r:Rg):Prop where
 ha:H a=some (.tup [.ref li,.ref lo,.str r.z,.ref l])
 hi:H li=some (.lst (r.ins.map V.str))
 ho:H lo=some (.lst (r.outs.map V.str))
 arcs:ArsA H l vs r.arcs
variable {r:Rg}
theorem RgA.same {H':Hp} (S:ak H H') (h:RgA H a li lo l vs r):RgA H' a li lo l vs r:=⟨S _ _ h.ha,S _ _ h.hi,S _ _ h.ho,h.arcs.same S⟩
def tk2 (t:Tu):av:=[.inl (.inr t.1),.inl (.inr t.2)]
variable {x:Tu}
theorem gB {y:Tu} (h:tk2 x=tk2 y):x=y:=by
 unfold tk2 at h;simp only[X0,Sum.inl.injEq,Sum.inr.injEq]at h;exact Prod.ext h.1 h.2.1
theorem TuA.tk {t:Tu} (h:TuA H (.ref b) t):bL H (tk2 t) b:=by
 obtain⟨_,e,q⟩:=h;cases e;exact⟨_,q,.cons rfl (.cons rfl .nil)⟩
theorem TuA.of {t:Tu} (h:bL H (tk2 t) b):TuA H (.ref b) t:=by
 obtain⟨vs,q,p⟩:=h
 cases p with
 | cons r1 p=>cases p with
  | cons r2 p =>
   cases p;cases r1;cases r2;exact⟨b,rfl,q⟩
variable {Q:VK}
theorem gh {K:PySem.W.Frag} {neg:Bool} {y:Tu} (h1:TuA H u x) (h2:TuA H v y) (q:Q (.bl (if neg=true then !decide (x=y) else decide (x=y))) H):sX K neg u v H Q:=by
 obtain⟨a,e,_⟩:=id h1;subst e;obtain⟨b,e,_⟩:=id h2;subst e;refine zK h1.tk h2.tk rfl ?_;have e:decide (tk2 x=tk2 y)=decide (x=y):=Xs.mpr ⟨gB,λh=>by rw[h]⟩;rw[e];exact q
variable {ts d o:List Tu}
theorem xp (h:Paired (TuA H) vs ts):∃bs:A3,vs=bs.map V.ref/\KsA H bs (ts.map tk2):=by
 induction h with
 | nil=>exact⟨[],rfl,.nil⟩
 | @cons v t _ _ r _ ih =>
 obtain⟨bs,e,p⟩:=ih;obtain⟨b,e1,q⟩:=id r;subst e1;exact⟨b::bs,by rw[e];rfl,.cons r.tk p⟩
variable {ks us:List av}
theorem xY {bs:A3} (h:KsA H bs ks) (hk:∀k∈ks,∃t,k=tk2 t):∃ts:List Tu,ks=ts.map tk2/\Paired (TuA H) (bs.map V.ref) ts:=by
 induction h with
 | nil=>exact⟨[],rfl,.nil⟩
 | @cons b k _ _ r _ ih =>
 obtain⟨ts,e,p⟩:=ih λk hk'=>hk k (Qp _ hk');obtain⟨t,rfl⟩:=hk k (by simp);exact⟨t::ts,by rw[e];rfl,.cons (TuA.of r) p⟩
theorem ve (ts:List Tu):rN true (ts.map tk2):=by
 refine⟨λx hx y hy=>?_,λx hx=>?_⟩
 ·obtain⟨t,_,rfl⟩:=Ql.mp hx;obtain⟨u,_,rfl⟩:=Ql.mp hy;rfl
 obtain⟨t,_,rfl⟩:=Ql.mp hx;exact⟨_,_,rfl⟩
def leT (x y:Tu):Prop:=leF (tk2 x) (tk2 y)
theorem ua {y:Tu} (h1:leT x y) (h2:leT y x):x=y:=by
 have h:=Tm.mF h1 h2;have:[Sum.inr x.1,Sum.inr x.2]=([Sum.inr y.1,Sum.inr y.2]:List Key):=h;simp only[X0,Sum.inr.injEq]at this;exact Prod.ext this.1 this.2.1
structure WtOk (P:Tu->Prop) (ts:List Tu):Prop where
 nd:ts.Nodup
 mem:∀x,x∈ts↔P x
 so:ts.Pairwise leT
theorem gQ {α:Type} {le:α->α->Prop} (anti:∀x y,le x y->le y x->x=y):∀{xs ys:List α},xs.Nodup->ys.Nodup->(∀x,x∈xs↔x∈ys)->xs.Pairwise le->ys.Pairwise le->xs=ys
 | [],[],_,_,_,_,_=>rfl
 | [],y::_,_,_,m,_,_=>absurd ((m y).mpr (by simp)) (by simp)
 | x::_,[],_,_,m,_,_=>absurd ((m x).mp (by simp)) (by simp)
 | x::xs,y::ys,n1,n2,m,s1,s2=>by
  rw[QS]at n1 n2;rw[List.pairwise_cons]at s1 s2
  have e:x=y:=by
   rcases Qj.mp ((m x).mp (by simp)) with h|h
   ·exact h
   rcases Qj.mp ((m y).mpr (by simp)) with h'|h'
   ·exact h'.symm
   exact anti _ _ (s1.1 _ h') (s2.1 _ h)
  subst e;refine congrArg (x::·) (gQ anti n1.2 n2.2 (λz=>?_) s1.2 s2.2);have:=m z;by_cases c:z=x
  ·subst c;exact⟨λh=>absurd h n1.1,λh=>absurd h n2.1⟩
  simpa[c] using this
theorem WtOk.one {P P':Tu->Prop} {us:List Tu} (h:WtOk P ts) (g:WtOk P' us) (e:∀x,P x↔P' x):ts=us :=
 gQ (λ_ _=>ua) h.nd g.nd (λx=>(h.mem x).trans ((e x).trans (g.mem x).symm)) h.so g.so
def lI:Sp:=λvs H Q _=>∃(a li lo l:Addr) (as:List V) (r:Rg) (row nm:Str),vs=[.ref a,.str row,.str nm]/\RgA H a li lo l as r/\RgOk r/\StOk r.ws.length row/\nm∈r.ws/\∀H',ak H H'->Q (.str (cA row (r.ws.idxOf nm))) H'
def sw:Sp:=λvs H Q _=>∃(l:Addr) (as:List V) (r:Rg),vs=[.ref l]/\ArsA H l as r.arcs/\RgOk r/\∀p vs ts H',ak H H'->H p=none->H' p=some (.lst vs)->Paired (TuA H') vs ts->WtOk (λt=>∃a∈r.arcs,a.two=t) ts->Q (.ref p) H'
def mks (as:List Arc):List Int:=as.map (·.mark)
def pw:Sp:=λvs H Q _=>∃(l:Addr) (as:List V) (r:Rg),vs=[.ref l]/\ArsA H l as r.arcs/\RgOk r/\∀p H',ak H H'->H' p=some (.tup ((mks r.arcs).map V.int))->Q (.ref p) H'
theorem gg {ws:List Str} {x:Str} (h:x∈ws):ws[ws.idxOf x]?=some x:=by
 have hi:=QA h;rw[Qb hi];exact congrArg some (XS hi)
theorem gf {ws:List Str} {x:Str}:∀m,m<ws.idxOf x->ws[m]?≠some x:=λm hm e=>by
 have h1:=List.not_of_lt_findIdx (xs:=ws) (p:=(·==x)) (i:=m) hm;obtain⟨h2,e2⟩:=Qc.mp e;rw[e2]at h1;simp at h1
variable {α β:Type}
theorem dy (xs:List α):xs.filter (λ_=>true)=xs:=List.filter_eq_self.mpr (by simp)
theorem bP {α β γ:Type} {F:α->γ->Prop} {f:β->γ}:∀{xs:List α} {ys:List β},Paired (λx y=>F x (f y)) xs ys->Paired F xs (ys.map f)
 | _,_,.nil=>.nil
 | _,_,.cons h t=>.cons h (bP t)
theorem eK {α β:Type} {f:β->α}:∀{xs:List α} {ys:List β},Paired (λx y=>x=f y) xs ys->xs=ys.map f
 | _,_,.nil=>rfl
 | _,_,.cons h t=>by rw[h,eK t];rfl
theorem we (ok:RgOk r) (nd:us.Nodup) (h:∀x∈us,x∈(r.arcs.map (·.two)).map tk2):us.length<64:=by
 have:=Bf.pigeon us ((r.ws.map λn=>tk2 (n, "+"))++(r.ws.map λn=>tk2 (n, "-"))) nd λx hx=>by
  have hx:=h x hx;rw[Xw]at hx;obtain⟨a,ha,rfl⟩:=Ql.mp hx;obtain⟨h1,h2⟩:=(ok.arcs a ha).t;refine Qz.mpr ?_;rcases h2 with e|e
  ·exact .inl (Ql.mpr ⟨_,h1,by show tk2 _=tk2 _;rw[<-e]⟩)
  exact .inr (Ql.mpr ⟨_,h1,by show tk2 _=tk2 _;rw[<-e]⟩)
 rw[Qi,Qd,Qd]at this;have:=ok.w5;omega
variable {σ σ0:St}
theorem ou {K:PySem.W.Frag} {ta:TA} (q:ta σ H λvs H1=>∃(ks:List av) (b:Bool),oU K H1 vs ks/\rN b ks/\∀(p:Addr) (bs':A3) (us:List av),H1 p=none->KsA H1 bs' us->us.Nodup->(∀x,x∈us↔x∈ks)->us.Pairwise leF->Q (.ref p) (upd H1 p (.lst (bs'.map V.ref)))):jh K ta σ H Q:=q
section
theorem eQ:FnScope ["sheet", "row", "name"] ["sheet", "row", "name"] (aw (top 7)):=by fin2
variable {fd:FuncData}
theorem qV {f:Addr} (Fu:Fun K "row_behind" "row_behind" (top 7) f fd) (T:Txt K mg TT) (f_turned_at:Fn P w K mg base "turned_at" ["standing", "place"] 1 gN):FnOk P w K mg base CX0 2 f fd ["sheet", "row", "name"] lI:=by
 have S:=eQ;refine Fu.ok S (by room) (λcdv A outer s H vs Q E hr h=>?_);obtain⟨a,li,lo,l,as,sh,row,nm,rfl,at_,ok,st,hnm,k⟩:=h;refine⟨_,(pss_one (aW (aH f_turned_at hr (aa (pv 1) (aa (bE QB Xb Xc iu (aO fj (ao ax (pv 0) af) (ao ax (pv 0) af)) (aa (pv 2) ac ae)) ac aM) ae)))),?_⟩;x_go;have lw:(sh.ins.map V.str).length+(sh.outs.map V.str).length=sh.ws.length:=by rw[Qd,Qd];unfold Rg.ws;rw[Qi]
 have ha:=at_.ha;have w5:=ok.w5;lk;refine iE at_.hi at_.ho (by rw[lw];omega) λp hp=>?_;rw[<-QZ];show tyV K "list" (.ref p) _/\_;refine⟨i_tyL ag,?_⟩;lk;refine⟨p,sh.ws,nm,sh.ws.idxOf nm,rfl,rfl,ag,gg hnm,gf,by omega,?_⟩;lk;exact⟨row,_,_,rfl,st,QA hnm,by omega,k _ (ar hp)⟩
theorem fZ:FnScope ["arcs"] ["arcs"] (aw (top 15)):=by fin2
theorem vB {f:Addr} (Fu:Fun K "waiting_turns" "waiting_turns" (top 15) f fd) (T:Txt K mg TT):FnOk P w K mg base CX0 2 f fd ["arcs"] sw:=by
 have S:=fZ;refine Fu.ok S (by room) (λcdv A outer s H vs Q E hr h=>?_);obtain⟨l,as,r,rfl,at_,ok,k⟩:=h;have hu:=cB hr;refine⟨_,(pss_one (aW (lY rfl hu (by rfl) T.n_sorted (by rfl) T.n_set (aa (ju "arc" [] (br (pv 0)) (λ_ _ _ _=>(ao (eL (K:=K) rfl) (pv 0) af))) ac)))),?_⟩;x_go;lk;refine ou (i_cons (b_ (s_list (aP rfl ⟨l,rfl,⟨_,SqL.of at_.h⟩,λD hD=>?_⟩))));refine eN (λ_=>true) (λH v (a:Arc)=>TuA H v a.two) hD at_.h at_.p (QQ ok.few (by decide)) (λH H' v x k h=>h.kt k) (λv x H' ia mx S' G N hG _=>?_) (λH' ys S' hy p=>?_)
 ·obtain⟨b,v1,v2,rfl,hb,t1,t2⟩:=ia.kt (ak.tups S');refine aA ⟨trivial,i_yes (iteT ?_)⟩;lk;exact hG rfl _ H' (ak.refl _) t2
 rw[dy]at p;have p:=bP (f:=λa:Arc=>a.two) p;obtain⟨bs,e,ka⟩:=xp p;subst e;refine bo ⟨_,true,⟨D,bs,rfl,SqL.of hy,ka,λk hk=>?_,λus nd h=>we ok nd h⟩,ve _,λq bs' us hq ka' nd mm so=>?_⟩
 ·obtain⟨t,_,rfl⟩:=Ql.mp hk;rfl
 obtain⟨ts,e,pt⟩:=xY ka' λk hk=>by obtain⟨t,_,e⟩:=Ql.mp ((mm k).mp hk);exact⟨t,e.symm⟩
 subst e;have S4:=ar (o:=.lst (bs'.map V.ref)) hq;refine k q _ ts _ (S'.trans S4) (bJ S' hq) ag (ad (λ_ _ h=>h.kt (ak.tups S4)) pt) ⟨(Xo.mp nd).imp λh e=>h (by rw[e]),λx=>?_,(Xo.mp so).imp λh=>h⟩
 constructor
 ·intro hx;obtain⟨t,ht,e⟩:=Ql.mp ((mm _).mp (Ql.mpr ⟨x,hx,rfl⟩));obtain⟨a,ha,e2⟩:=Ql.mp ht;exact⟨a,ha,by rw[e2];exact gB e⟩
 rintro⟨a,ha,rfl⟩;obtain⟨t,ht,e⟩:=Ql.mp ((mm (tk2 a.two)).mpr (Ql.mpr ⟨_,Ql.mpr ⟨a,ha,rfl⟩,rfl⟩));rw[<-gB e];exact ht
theorem gU:FnScope ["arcs"] ["arcs"] (aw (top 16)):=by fin2
theorem tT {f:Addr} (Fu:Fun K "first_marks" "first_marks" (top 16) f fd) (T:Txt K mg TT):FnOk P w K mg base CX0 2 f fd ["arcs"] pw:=by
 have S:=gU;refine Fu.ok S (by room) (λcdv A outer s H vs Q E hr h=>?_);obtain⟨l,as,r,rfl,at_,ok,k⟩:=h;have hu:=cB hr;refine⟨_,(pss_one (aW (bw eW (by rfl) T.n_tuple PyProof.Rows.boot_tuple (aa (ju "arc" [] (br (pv 0)) (λ_ _ _ _=>(ao (eL (K:=K) rfl) (pv 0) af))) ac)))),?_⟩;x_go;lk;refine b_ (s_list (aP rfl ⟨l,rfl,⟨_,SqL.of at_.h⟩,λD hD=>?_⟩));refine eN (λ_=>true) (λH v (a:Arc)=>v=.int a.mark) hD at_.h at_.p (QQ ok.few (by decide)) (λH H' v x k h=>h) (λv x H' ia mx S' G N hG _=>?_) (λH' ys S' hy p=>?_)
 ·obtain⟨b,v1,v2,rfl,hb,t1,t2⟩:=ia.kt (ak.tups S');refine aA ⟨trivial,i_yes (iteT ?_)⟩;lk;exact hG rfl _ H' (ak.refl _) rfl
 rw[dy]at p;refine bo ⟨D,ys,rfl,.inl ⟨SqL.of hy,λq hq=>?_⟩⟩;have e:ys=(mks r.arcs).map V.int:=by rw[eK p];unfold mks;rw[Xw];rfl
 subst e;exact k q _ (S'.trans (ar hq)) ag
end
def bT (as:List Arc) (ms:List Int) (t:Tu):Bool:=(as.zip ms).all λp=>!decide (p.1.two=t) || decide (0<p.2)
def mkB (a:Arc) (m:Int) (t:Tu):Int:=if a.one=t then m+1 else if a.two=t then m-1 else m
def dr (as:List Arc) (ms:List Int) (t:Tu):List Int:=(as.zip ms).map λp=>mkB p.1 p.2 t
structure MkOk (as:List Arc) (ms:List Int):Prop where
 len:ms.length=as.length
 m:∀m∈ms,m=0\/m=1
def wN:Sp:=λvs H Q _=>∃(l ma ta:Addr) (as:List V) (r:Rg) (ms:List Int) (t:Tu),vs=[.ref l,.ref ma,.ref ta]/\ArsA H l as r.arcs/\RgOk r/\H ma=some (.tup (ms.map V.int))/\MkOk r.arcs ms/\TuA H (.ref ta) t/\∀H',ak H H'->Q (.bl (bT r.arcs ms t)) H'
def sE:Sp:=λvs H Q _=>∃(v:V) (m:Int) (ta:Addr) (a:Arc) (t:Tu),vs=[v,.int m,.ref ta]/\ArA H v a/\(m=0\/m=1)/\TuA H (.ref ta) t/\∀H',ak H H'->Q (.int (mkB a m t)) H'
def pj:Sp:=λvs H Q _=>∃(l ma ta:Addr) (as:List V) (r:Rg) (ms:List Int) (t:Tu),vs=[.ref l,.ref ma,.ref ta]/\ArsA H l as r.arcs/\RgOk r/\H ma=some (.tup (ms.map V.int))/\MkOk r.arcs ms/\TuA H (.ref ta) t/\∀p H',ak H H'->H' p=some (.tup ((dr r.arcs ms t).map V.int))->Q (.ref p) H'
theorem d6:∀(ms:List Int),Paired (λv m=>v=V.int m) (ms.map V.int) ms
 | []=>.nil
 | _::ms=>.cons rfl (d6 ms)
section
theorem lO:FnScope ["arcs", "marks", "turn"] ["arcs", "marks", "turn"] (aw (top 17)):=by fin2
variable {fd:FuncData}
theorem xX {f:Addr} (Fu:Fun K "may_come" "may_come" (top 17) f fd) (T:Txt K mg TT):FnOk P w K mg base CX0 2 f fd ["arcs", "marks", "turn"] wN:=by
 have S:=lO;refine Fu.ok S (by room) (λcdv A outer s H vs Q E hr h=>?_);obtain⟨l,ma,ta,as,r,ms,t,rfl,at_,ok,hm,mok,tu,k⟩:=h;have hu:=cB hr;refine⟨_,(pss_one (aW (aF (uR rfl) (by rfl) T.n_all PyProof.Rows.boot_all (aa (jt (tgs:=["arc", "mark"]) (cap:=[("turn", 2)]) rfl ⟨rfl,rfl,rfl,rfl,rfl,rfl⟩ (pL (by rfl) T.n_zip (aa (pv 0) (aa (pv 1) ac ae) ae)) (λ_ _ _ _=>(kz (K:=K) (n:=2) rfl rfl (bg (bI (i:=0) (show List.Nodup [("arc" : Str),("mark" : Str),("turn" : Str)] by decide +kernel) rfl (by z_go)) (bg (bI (i:=1) (show List.Nodup [("arc" : Str),("mark" : Str),("turn" : Str)] by decide +kernel) rfl (by z_go)) cS)))) (λ_ _ _ _=>(dm (aB (pQ (K:=K) rfl hr.units) (ao (eL (K:=K) rfl) (pv 0) af) (pv 2) (aJ _)))) (λ_ _ _ _=>(cK mh (pv 1) af (aJ _)))) ac)))),?_⟩;x_go;lk;refine b_ (i_cons (aP rfl (i_cons (aP rfl (bo ⟨l,ma,false,true,rfl,⟨_,SqL.of at_.h⟩,⟨_,SqT.of hm⟩,λD hD=>?_⟩)))));refine uP (λp=>decide (p.1.two=t)) (λH v p=>v=.bl (decide (0<p.2))) hD at_.h hm at_.p (d6 ms) mok.len.symm (QQ ok.few (by decide)) (λH H' v x k h=>h) (λv x u m b H' ia im mx S' hb G N hG hN=>?_) (λH' ys S' hy p=>?_)
 ·obtain⟨c,v1,v2,rfl,hc,t1,t2⟩:=ia.kt (ak.tups S');cases im;refine⟨b,_,rfl,SqT.of hb,rfl,_,_,rfl,aA ⟨_,_,rfl,aA ⟨rfl,⟨rfl,trivial⟩,?_⟩⟩⟩;lk;refine gh t2 (tu.kt (ak.tups S')) ⟨_,rfl,?_⟩;dsimp only at hG hN ⊢;cases ct:decide (x.two=t)
  ·exact iteF (hN ct H' (ak.refl _))
  refine iteT ?_;lk;exact hG ct _ H' (ak.refl _) rfl
 refine bo ⟨D,(((r.arcs.zip ms).filter λp=>decide (p.1.two=t)).map λp=>decide (0<p.2)),rfl,?_,?_⟩
 ·rw[eK p]at hy;rw[Xw];exact SqL.of hy
 have e:((((r.arcs.zip ms).filter λp=>decide (p.1.two=t)).map λp=>decide (0<p.2)).all id)=bT r.arcs ms t:=by
  unfold bT;rw[List.all_map,List.all_filter];rfl
 rw[e];exact k H' S'
theorem gT:FnScope ["arc", "mark", "turn"] ["arc", "mark", "turn"] (aw (top 18)):=by fin2
theorem vG {f:Addr} (Fu:Fun K "mark_behind" "mark_behind" (top 18) f fd) (T:Txt K mg TT):FnOk P w K mg base CX0 2 f fd ["arc", "mark", "turn"] sE:=by
 have S:=gT;refine Fu.ok S (by room) (λcdv A outer s H vs Q E hr h=>?_);obtain⟨v,m,ta,a,t,rfl,ia,hm,tu,k⟩:=h;have hu:=cB hr;obtain⟨b,v1,v2,rfl,hb,t1,t2⟩:=ia
 refine⟨_,(pss_cons (ps_if (aB (kB hr.units) (ao ax (pv 0) af) (pv 2) (aJ _)) (pss_one (aW (aO bX (pv 1) af))) pss_nil)
  (pss_one (aW (lZ (aB (kB hr.units) (ao ax (pv 0) af) (pv 2) (aJ _)) (aO f9 (pv 1) af) (pv 1))))),?_⟩
 x_go;have k:=k H (ak.refl H);unfold mkB at k;lk;refine gh t1 tu ⟨_,rfl,?_⟩;by_cases c1:a.one=t
 ·rw[Qs c1]at k;refine ifT (Qu c1) ?_;lk;exact k
 rw[Qn c1]at k;refine ifF (Qw c1) ?_;lk;refine gh t2 tu ⟨_,rfl,?_⟩;by_cases c2:a.two=t
 ·rw[Qs c2]at k;refine ifT (Qu c2) ?_;lk;exact k
 rw[Qn c2]at k;refine ifF (Qw c2) ?_;lk;exact k
theorem gx:FnScope ["arcs", "marks", "turn"] ["arcs", "marks", "turn"] (aw (top 19)):=by fin2
theorem tQ {f:Addr} (Fu:Fun K "marks_behind" "marks_behind" (top 19) f fd) (T:Txt K mg TT) (f_mark_behind:Fn P w K mg base "mark_behind" ["arc", "mark", "turn"] 2 sE):FnOk P w K mg base CX0 3 f fd ["arcs", "marks", "turn"] pj:=by
 have S:=gx;refine Fu.ok S (by room) (λcdv A outer s H vs Q E hr h=>?_);obtain⟨l,ma,ta,as,r,ms,t,rfl,at_,ok,hm,mok,tu,k⟩:=h;have hu:=cB hr;refine⟨_,(pss_one (aW (bw eW (by rfl) T.n_tuple PyProof.Rows.boot_tuple (aa (jt (tgs:=["arc", "mark"]) (cap:=[("turn", 2)]) rfl ⟨rfl,rfl,rfl,rfl,rfl,rfl⟩ (pL (by rfl) T.n_zip (aa (pv 0) (aa (pv 1) ac ae) ae)) (λ_ _ _ _=>(kz (K:=K) (n:=2) rfl rfl (bg (bI (i:=0) (show List.Nodup [("arc" : Str),("mark" : Str),("turn" : Str)] by decide +kernel) rfl (by z_go)) (bg (bI (i:=1) (show List.Nodup [("arc" : Str),("mark" : Str),("turn" : Str)] by decide +kernel) rfl (by z_go)) cS)))) (λ_ _ _ _=>d4) (λ_ _ _ _=>(aH f_mark_behind hr (aa (pv 0) (aa (pv 1) (aa (pv 2) ac ae) ae) ae)))) ac)))),?_⟩;x_go;lk;refine b_ (i_cons (aP rfl (i_cons (aP rfl (bo ⟨l,ma,false,true,rfl,⟨_,SqL.of at_.h⟩,⟨_,SqT.of hm⟩,λD hD=>?_⟩)))));refine uP (λ_=>true) (λH v p=>v=.int (mkB p.1 p.2 t)) hD at_.h hm at_.p (d6 ms) mok.len.symm (QQ ok.few (by decide)) (λH H' v x k h=>h) (λv x u m b H' ia im mx S' hb G N hG hN=>?_) (λH' ys S' hy p=>?_)
 ·have ia:=ia.kt (ak.tups S');cases im;refine⟨b,_,rfl,SqT.of hb,rfl,_,_,rfl,aA ⟨_,_,rfl,aA ⟨rfl,⟨rfl,trivial⟩,i_yes (iteT ?_)⟩⟩⟩;lk;exact⟨v,m,ta,x,t,rfl,ia,mok.m m (List.of_mem_zip mx).2,tu.kt (ak.tups S'),λH2 S2=>hG rfl _ H2 S2 rfl⟩
 rw[dy]at p;refine bo ⟨D,ys,rfl,.inl ⟨SqL.of hy,λq hq=>?_⟩⟩;have e:ys=(dr r.arcs ms t).map V.int:=by rw[eK p];unfold dr;rw[Xw];rfl
 subst e;exact k q _ (S'.trans (ar hq)) ag
end
abbrev Pl:=List Int × Str
structure PlOk (r:Rg) (p:Pl):Prop where
 m:MkOk r.arcs p.1
 z:StOk r.ws.length p.2
def PlA (H:Hp) (v:V) (p:Pl):Prop:=∃b mb,v=.ref b/\H b=some (.tup [.ref mb,.str p.2])/\H mb=some (.tup (p.1.map V.int))
theorem PlA.kt {p:Pl} (k:a9 H H') (h:PlA H v p):PlA H' v p:=let ⟨b,mb,e,h1,h2⟩:=h;⟨b,mb,e,k _ _ h1,k _ _ h2⟩
abbrev Sp1:=Tu × Pl
def StA (H:Hp) (v:V) (s:Sp1):Prop:=∃b v1 v2,v=.ref b/\H b=some (.tup [v1,v2])/\TuA H v1 s.1/\PlA H v2 s.2
theorem StA.kt {s:Sp1} (k:a9 H H') (h:StA H v s):StA H' v s:=let ⟨b,v1,v2,e,h0,h1,h2⟩:=h;⟨b,v1,v2,e,k _ _ h0,h1.kt k,h2.kt k⟩
def a7 (r:Rg) (p:Pl) (t:Tu):Sp1:=(t,(dr r.arcs p.1 t,cA p.2 (r.ws.idxOf t.1)))
def bH (r:Rg) (ts:List Tu) (p:Pl):List Sp1:=(ts.filter (bT r.arcs p.1)).map (a7 r p)
abbrev Wt (r:Rg) (ts:List Tu):Prop:=WtOk (λt=>∃a∈r.arcs,a.two=t) ts
theorem Wt.few (ok:RgOk r) (w:Wt r ts):ts.length<=10:=by
 have:=Bf.pigeon ts ((r.ws.map λn=>((n, "+"):Tu))++(r.ws.map λn=>((n, "-"):Tu))) w.nd λx hx=>by
  obtain⟨a,ha,rfl⟩:=(w.mem x).mp hx;obtain⟨h1,h2⟩:=(ok.arcs a ha).t;refine Qz.mpr ?_;rcases h2 with e|e
  ·exact .inl (Ql.mpr ⟨_,h1,Prod.ext rfl e.symm⟩)
  exact .inr (Ql.mpr ⟨_,h1,Prod.ext rfl e.symm⟩)
 rw[Qi,Qd,Qd]at this;have:=ok.w5;omega
theorem Wt.ok {r:Rg} {ts:List Tu} (ok:RgOk r) (w:Wt r ts) {t:Tu} (h:t∈ts):ca r.ws t:=by
 obtain⟨a,ha,rfl⟩:=(w.mem t).mp h;exact(ok.arcs a ha).t
def pi:Sp:=λvs H Q _=>∃(a li lo l:Addr) (as:List V) (r:Rg) (v:V) (p:Pl),vs=[.ref a,v]/\RgA H a li lo l as r/\RgOk r/\PlA H v p/\PlOk r p/\∀q sv ts H',ak H H'->H q=none->H' q=some (.lst sv)->Wt r ts->Paired (StA H') sv (bH r ts p)->Q (.ref q) H'
theorem kS {m:Int}:∀{ns:List Int},inV (.int m) (ns.map V.int)=true↔m∈ns
 | []=>by simp[inV]
 | x::ns=>by
  have ih:=kS (m:=m) (ns:=ns);unfold inV at ih ⊢;rw[Qx,List.any_cons,Bool.or_eq_true,Qj,ih]
  have:eqV (.int x) (.int m)=true↔m=x:=by
   show (x==m)=true↔m=x;rw[beq_iff_eq];exact eq_comm
  rw[this]
theorem rB (ns:List Int):(ns.map V.int).all cr=true:=by
 rw[List.all_map];exact QX.mpr λ_ _=>rfl
def sgB (row:Str) (i:Nat):Bool:=row.cps.getD i 0==49
def cT (r:Rg) (row:Str) (s:Sp1):Option Str:=if sgB row (r.ws.idxOf s.1.1)=decide (s.1.2 = "+") then some "signs" else if 2∈s.2.1 then some "twice" else none
def wV:Option Str->V
 | none=>.non
 | some z=>.str z
def wM:Sp:=λvs H Q _=>∃(a li lo l:Addr) (as:List V) (r:Rg) (v u:V) (p:Pl) (s:Sp1),vs=[.ref a,v,u]/\RgA H a li lo l as r/\RgOk r/\PlA H v p/\PlOk r p/\StA H u s/\ca r.ws s.1/\∀H',ak H H'->Q (wV (cT r p.2 s)) H'
section
theorem lL:FnScope ["ring_sheet", "place", "arcs", "steps", "turn"] ["ring_sheet", "place"] (aw (top 20)):=by fin2
theorem tN {f:Addr} {fd:FuncData} (Fu:Fun K "steps_at" "steps_at" (top 20) f fd) (T:Txt K mg TT) (f_waiting_turns:Fn P w K mg base "waiting_turns" ["arcs"] 2 sw) (f_may_come:Fn P w K mg base "may_come" ["arcs", "marks", "turn"] 2 wN) (f_marks_behind:Fn P w K mg base "marks_behind" ["arcs", "marks", "turn"] 3 pj) (f_row_behind:Fn P w K mg base "row_behind" ["sheet", "row", "name"] 2 lI):FnOk P w K mg base CX0 4 f fd ["ring_sheet", "place"] pi:=by
 have S:=lL;refine Fu.ok S (by room) (λcdv A outer s H vs Q E hr h=>?_);obtain⟨a,li,lo,l,as,r,v,p,rfl,at_,ok,pa,po,k⟩:=h;have hu:=cB hr;obtain⟨b,mb,rfl,hb,hmb⟩:=id pa
 refine⟨_,(pss_cons (aE 2 S.nd (ao ax (pv 0) af))
  (pss_cons (aE 3 S.nd (a_ ac))
  (pss_cons (ps_for PassesOwn.never rfl (br (aH f_waiting_turns hr (aa (pv 2) ac ae))) (bD 4 S.nd)
  (pss_one (ps_if (sY (aH f_may_come hr (aa (pv 2) (aa (ao ax (pv 1) af) (aa (pv 4) ac ae)) ae))) (pss_one (bM (bE QB Q4 Q5 bn (pv 3) (aa (be (aa (pv 4) (aa (be (aa (aH f_marks_behind hr (aa (pv 2) (aa (ao ax (pv 1) af) (aa (pv 4) ac ae)) ae)) (aa (aH f_row_behind hr (aa (pv 0) (aa (ao ax (pv 1) af) (aa (ao ax (pv 4) af) ac)) ae)) ac aM) aM)) ac se_tup) ae)) ac se_tup)))) pss_nil)))
  (pss_one (aW (pv 3)))))),?_⟩
 x_go;have ha:=at_.ha;lk;refine⟨by simp,λL hL=>aA ?_⟩;generalize hE:upd H L (.lst [])=H0;obtain⟨S0,q0⟩:=aj hL hE;refine s_seq (s_for (s_list (i_call (i_cons (aP rfl (bo ⟨l,as,r,rfl,at_.arcs.same S0,ok,λq tv ts H1 S1 nq hq pt wt=>⟨q,rfl,⟨_,SqL.of hq⟩,?_⟩⟩))))));have nLq:L≠q:=λz=>by rw[<-z,q0]at nq;cases nq
 let I1:IvF:=λi σ H'=>(∃x,σ=[some (.ref a),some (.ref b),some (.ref l),some (.ref L),x])/\ak H H'/\a9 H1 H'/\H' q=some (.lst tv)/\∃sv,H' L=some (.lst sv)/\Paired (StA H') sv (bH r (ts.take i) p);refine bY (xs:=tv) I1 ⟨⟨none,rfl⟩,S0.trans S1,λ_ _ e=>e,hq,[],S1 _ _ q0,.nil⟩ (λi σ H' _ h=>SqL.of h.2.2.2.1) (λi x σ H' ex h=>?_) (λσ H' h=>?_)
 ·obtain⟨⟨x0,rfl⟩,Sm,kt,hq',sv,hL',ps⟩:=h;obtain⟨t,et,tu⟩:=paired_get pt ex;have tu:=tu.kt kt;obtain⟨ta,rfl,hta⟩:=id tu;have at':=at_.same Sm;have pa':=pa.kt (ak.tups Sm);have hb':=Sm _ _ hb;have hmb':=Sm _ _ hmb;have mt:t∈ts:=Qh et;have few:=Wt.few ok wt;have sl:=am ps
  have sf:sv.length<=10:=by
   rw[sl];unfold bH;rw[Qd];refine QQ (List.length_filter_le _ _) ?_;rw[QN];omega
  have big:1000<sizeLine:=by decide
  lk;refine⟨l,mb,ta,as,r,p.1,t,rfl,at'.arcs,ok,hmb',po.m,tu,λH2 S2=>⟨_,rfl,?_⟩⟩
  have et':(ts.take i).filter (bT r.arcs p.1)++(if bT r.arcs p.1 t=true then [t] else [])=(ts.take (i+1)).filter (bT r.arcs p.1):=by
   rw[XI,et,List.filter_append];congr 1;cases c:bT r.arcs p.1 t <;> simp[c]
  cases c:bT r.arcs p.1 t
  ·refine iteF (s_next ⟨⟨_,rfl⟩,Sm.trans S2,λb xs e=>S2 _ _ (kt b xs e),S2 _ _ hq',sv,S2 _ _ hL',?_⟩);rw[c,Qn Qr,XG]at et';unfold bH;rw[<-et'];exact ad (λ_ _ h=>h.kt (ak.tups S2)) ps
  refine iteT ?_;rw[c,Qs rfl]at et';have hL2:=S2 _ _ hL';have hb2:=S2 _ _ hb';lk;refine⟨l,mb,ta,as,r,p.1,t,rfl,at'.arcs.same S2,ok,S2 _ _ hmb',po.m,tu.kt (ak.tups S2),λm2 H3 S3 hm2=>?_⟩;have hb3:=S3 _ _ hb2;have S23:=S2.trans S3;have hta3:=S23 _ _ hta;lk;refine⟨a,li,lo,l,as,r,p.2,t.1,rfl,at'.same S23,ok,po.z,(Wt.ok ok wt mt).1,λH4 S4=>?_⟩;lk;refine⟨by simp[sizeLine],λp5 h5=>?_⟩;generalize hE5:upd H4 p5 _=H5;obtain⟨S5,q5⟩:=aj h5 hE5;lk;refine⟨by simp[sizeLine],λp6 h6=>?_⟩;generalize hE6:upd H5 p6 _=H6;obtain⟨S6,q6⟩:=aj h6 hE6;have S46:=(S23.trans S4).trans (S5.trans S6);have hL6:=S46 _ _ hL';refine bo (dQ hL6 (by omega) (s_next ?_));have ktu:=bU (o:=.lst (sv++[.ref p6])) hL6;refine⟨⟨_,rfl⟩,bO (Sm.trans S46) hL,λb xs e=>ktu _ _ (S46 _ _ (kt b xs e)),by rw[ah nLq.symm];exact S46 _ _ hq',_,ag,?_⟩;unfold bH;rw[<-et',QZ];refine aU (ad (λ_ _ h=>(h.kt (ak.tups S46)).kt ktu) ps) ?_;exact⟨p6,_,_,rfl,ktu _ _ q6,(tu.kt (ak.tups S46)).kt ktu,p5,m2,rfl,ktu _ _ (S6 _ _ q5),ktu _ _ (S6 _ _ (S5 _ _ (S4 _ _ hm2)))⟩
 obtain⟨⟨x0,rfl⟩,Sm,kt,hq',sv,hL',ps⟩:=h;rw[Q8 (Nat.le_of_eq (am pt).symm)]at ps;exact s_ret (aP rfl (k L sv ts H' Sm hL hL' wt ps))
theorem lN:FnScope ["ring_sheet", "place", "step", "turn", "sign"] ["ring_sheet", "place", "step"] (aw (top 21)):=by fin2
theorem xW {f:Addr} {fd:FuncData} (Fu:Fun K "odd_word" "odd_word" (top 21) f fd) (T:Txt K mg TT):FnOk P w K mg base CX0 2 f fd ["ring_sheet", "place", "step"] wM:=by
 have S:=lN;refine Fu.ok S (by room) (λcdv A outer s H vs Q E hr h=>?_);obtain⟨a,li,lo,l,as,r,v,u,p,sp,rfl,at_,ok,pa,po,sa,tok,k⟩:=h;have hu:=cB hr;obtain⟨SA,tS1,tS2⟩:=T.sA;obtain⟨b,mb,rfl,hb,hmb⟩:=id pa;obtain⟨c,v1,v2,rfl,hc,t1,p2⟩:=id sa;obtain⟨d,rfl,hd⟩:=id t1;obtain⟨e,me,rfl,he,hme⟩:=id p2
 refine⟨_,(pss_cons (aE 3 S.nd (ao ax (pv 2) af))
  (pss_cons (aE 4 S.nd (ao dJ (ao ax (pv 1) af) (bE QB Xb Xc iu (aO fj (ao ax (pv 0) af) (ao ax (pv 0) af)) (aa (ao ax (pv 3) af) ac))))
  (pss_cons (ps_if (aB l9 (pv 4) (ao (ye tS2) (kA (v:=.ref SA) (by rfl) tS1 rfl) (ao ax (pv 3) af)) (aJ _)) (pss_one (aW aI)) pss_nil)
  (pss_one (aW (lZ (aB ga af (ao ax (ao ax (pv 2) af) af) rfl) aI nO)))))),?_⟩
 x_go;have ha:=at_.ha;lk;have w5:=ok.w5;have big:1000<sizeLine:=by decide
 have lw:(r.ins.map V.str).length+(r.outs.map V.str).length=r.ws.length:=by rw[Qd,Qd];unfold Rg.ws;rw[Qi]
 refine iE at_.hi at_.ho (by rw[lw];omega) λp1 hp1=>?_;rw[<-QZ];generalize hE:upd H p1 _=H1;obtain⟨S1,q1⟩:=aj hp1 hE;have k:=k H1 S1;have hc:=S1 _ _ hc;have hd:=S1 _ _ hd;have he:=S1 _ _ he;have hme:=S1 _ _ hme;refine⟨i_tyL q1,?_⟩;lk;refine⟨p1,r.ws,sp.1.1,r.ws.idxOf sp.1.1,rfl,rfl,q1,gg tok.1,gf,by omega,?_⟩;have il:=QA tok.1;have hz:=po.z.len;refine fS (by show p.2.cps.size<=_;omega) (qu po.z il) ?_;have es:=pA po.z il;unfold jm at es;rw[es];lk
 have key:∀(G:VK),(G (.bl (decide (sgB p.2 (r.ws.idxOf sp.1.1)=decide (sp.1.2 = "+")))) H1)->sU SA (.ref SA) (.str sp.1.2) H1 λy H2=>rNe (sg (p.2.cps.getD (r.ws.idxOf sp.1.1) 0==49)) y H2 G:=λG g=>by
  unfold sgB at g;rcases tok.2 with e|e
  ·rw[e]at g ⊢;refine⟨rfl,.inl ⟨rfl,?_⟩⟩;cases c:(p.2.cps.getD (r.ws.idxOf sp.1.1) 0==49)
   ·rw[c]at g;exact i_ne rfl g
   rw[c]at g;exact i_ne rfl g
  rw[e]at g ⊢;refine⟨rfl,.inr ⟨rfl,?_⟩⟩;cases c:(p.2.cps.getD (r.ws.idxOf sp.1.1) 0==49)
  ·rw[c]at g;exact i_ne rfl g
  rw[c]at g;exact i_ne rfl g
 refine key _ ⟨_,rfl,?_⟩;unfold cT at k;by_cases c1:sgB p.2 (r.ws.idxOf sp.1.1)=decide (sp.1.2 = "+")
 ·rw[Qs c1]at k;refine ifT (Qu c1) ?_;lk;exact k
 rw[Qn c1]at k;refine ifF (Qw c1) ?_;lk;refine⟨me,_,rfl,.inr (SqT.of hme),rfl,rB _,_,rfl,?_⟩;by_cases c2:2∈sp.2.1
 ·rw[Qs c2]at k;refine ifT (kS.mpr c2) ?_;lk;exact k
 rw[Qn c2]at k;refine ifF (Bool.eq_false_iff.mpr λz=>c2 (kS.mp z)) ?_;lk;exact k
end
abbrev Nd:=List (Str × Nat)
inductive Res where
 | odd (way:List Tu) (word:Str)
 | many
 | sheet (nodes:List Nd)
structure Sx where
 ps:List Pl
 ws:List (List Tu)
noncomputable def bu (r:Rg) (row:Str) (way:List Tu):List Sp1->Sx->Nd->Res ⊕ (Sx × Nd)
 | [],x,nd=>.inr (x,nd)
 | s::ss,x,nd=>match cT r row s with
  | some w=>.inl (.odd (way++[s.1]) w)
  | none=>if s.2∈x.ps then bu r row way ss x (nd++[(s.1.1,x.ps.idxOf s.2)])
   else if x.ps.length=40 then .inl .many
   else bu r row way ss ⟨x.ps++[s.2],x.ws++[way++[s.1]]⟩ (nd++[(s.1.1,x.ps.length)])
def Sx.p (x:Sx) (i:Nat):Pl:=x.ps.getD i ([],Str.empty)
def Sx.wy (x:Sx) (i:Nat):List Tu:=x.ws.getD i []
noncomputable def outer (r:Rg) (ts:List Tu):Nat->Sx->List Nd->Res
 | 0,_,_=>.many
 | f+1,x,nds=>if nds.length<x.ps.length then
   match bu r (x.p nds.length).2 (x.wy nds.length) (bH r ts (x.p nds.length)) x [] with
   | .inl res=>res
   | .inr (x',nd)=>outer r ts f x' (nds++[nd])
  else .sheet nds
def Sx.first (r:Rg):Sx:=⟨[(mks r.arcs,r.z)],[[]]⟩
def unf (r:Rg) (ts:List Tu):Res:=outer r ts 41 (Sx.first r) []
theorem q_ {x y z:Tu} (h1:leT x y) (h2:leT y z):leT x z:=by
 have h1:Tm.lb (Tm.flat (tk2 y)) (Tm.flat (tk2 x))=false:=h1;have h2:Tm.lb (Tm.flat (tk2 z)) (Tm.flat (tk2 y))=false:=h2;show Tm.lb (Tm.flat (tk2 z)) (Tm.flat (tk2 x))=false
 cases c:Tm.lb (Tm.flat (tk2 z)) (Tm.flat (tk2 x)) with
 | false=>rfl
 | true =>
 rcases Tm.kK (Tm.flat (tk2 z)) (Tm.flat (tk2 y)) with h|h|h
 ·rw[h2]at h;cases h
 ·rw[h,h1]at c;cases c
 rw[Tm.d_ h c]at h1;cases h1
theorem Ab (xs:List Tu):∃us:List Tu,us.Nodup/\∀x,x∈us↔x∈xs:=by
 induction xs with
 | nil=>exact⟨[],.nil,λx=>Iff.rfl⟩
 | cons x xs ih =>
 obtain⟨us,nd,mm⟩:=ih;by_cases h:x∈us
 ·exact⟨us,nd,λy=>by rw[mm,Qj];exact⟨.inr,λz=>z.elim (λz=>z▸(mm x).mp h) id⟩⟩
 exact⟨x::us,QS.mpr ⟨h,nd⟩,λy=>by rw[Qj,Qj,mm]⟩
theorem yD (r:Rg):∃ts,Wt r ts:=by
 obtain⟨us,nd,mm⟩:=Ab (r.arcs.map (·.two));have pm:=List.mergeSort_perm us (λx y=>!Tm.lb (Tm.flat (tk2 y)) (Tm.flat (tk2 x)));refine⟨us.mergeSort (λx y=>!Tm.lb (Tm.flat (tk2 y)) (Tm.flat (tk2 x))),pm.nodup_iff.mpr nd,λx=>?_,?_⟩
 ·rw[pm.mem_iff,mm,Ql]
 refine(List.pairwise_mergeSort (λa b c h1 h2=>?_) (λa b=>?_) us).imp λ{a b} h=>?_
 ·rw[Bool.not_eq_true']at h1 h2 ⊢;exact q_ (x:=a) (y:=b) (z:=c) h1 h2
 ·rw[Bool.or_eq_true,Bool.not_eq_true',Bool.not_eq_true'];exact Tm.ra _ _
 rw[Bool.not_eq_true']at h;exact h
theorem mo {ms:List Int} {t:Tu} (h:ms.length=as.length):(dr as ms t).length=as.length:=by
 unfold dr;rw[Qd,List.length_zip];omega
theorem lG {p:Pl} {t:Tu} (po:PlOk r p) (tok:ca r.ws t) (may:bT r.arcs p.1 t=true) (no2:2∉(a7 r p t).2.1):PlOk r (a7 r p t).2:=by
 refine⟨⟨mo po.m.len,λm hm=>?_⟩,cP po.z (QA tok.1)⟩;have h2:m≠2:=λz=>no2 (z▸hm);have hm:m∈dr r.arcs p.1 t:=hm;unfold dr at hm;obtain⟨⟨a,n⟩,hz,rfl⟩:=Ql.mp hm;have hn:=po.m.m n (List.of_mem_zip hz).2;have hp:=QX.mp may _ hz;dsimp only at hp h2 ⊢;unfold mkB at h2 ⊢;by_cases c1:a.one=t
 ·rw[Qs c1]at h2 ⊢;omega
 rw[Qn c1]at h2 ⊢;by_cases c2:a.two=t
 ·rw[Qs c2]at h2 ⊢;rw[Qu c2,XZ,Bool.false_or,decide_eq_true_eq]at hp;omega
 rw[Qn c2];exact hn
def Sx.Ok (r:Rg) (x:Sx):Prop:=x.ws.length=x.ps.length/\1<=x.ps.length/\x.ps.length<=40/\(∀p∈x.ps,PlOk r p)/\∀w∈x.ws,w.length<x.ws.length
theorem Sx.p_mem {x:Sx} (h:i<x.ps.length):x.ps[i]?=some (x.p i):=by
 unfold Sx.p;rw[Qo,Qb h];rfl
theorem Sx.w_mem {x:Sx} {i:Nat} (h:i<x.ws.length):x.ws[i]?=some (x.wy i):=by
 unfold Sx.wy;rw[Qo,Qb h];rfl
theorem kG (ok:RgOk r):PlOk r (mks r.arcs,r.z):=by
 refine⟨⟨Qd ..,λm hm=>?_⟩,ok.st⟩;obtain⟨a,ha,rfl⟩:=Ql.mp hm;exact(ok.arcs a ha).m
theorem uz (ok:RgOk r):(Sx.first r).Ok r:=⟨rfl,Qg _,(by decide:1<=40),λp hp=>by cases Qv.mp hp;exact kG ok,λw hw=>by cases Qv.mp hw;exact Nat.zero_lt_one⟩
def tkP (p:Pl):av:=[.inr (p.1.map Sum.inl),.inl (.inr p.2)]
theorem p7:∀{xs ys:List Int},xs.map (Sum.inl:Int->Key)=ys.map Sum.inl->xs=ys
 | [],[],_=>rfl
 | [],_::_,h=>by simp at h
 | _::_,[],h=>by simp at h
 | x::xs,y::ys,h=>by
  rw[Qx,Qx]at h;injection h with h1 h2;rw[Sum.inl.inj h1,p7 h2]
theorem oY {x y:Pl} (h:tkP x=tkP y):x=y:=by
 unfold tkP at h;simp only[X0,Sum.inl.injEq,Sum.inr.injEq]at h;exact Prod.ext (p7 h.1) h.2.1
theorem PlA.tk {p:Pl} (h:PlA H (.ref b) p):bL H (tkP p) b:=by
 obtain⟨_,mb,e,q,q2⟩:=h;cases e;refine⟨_,q,.cons ⟨mb,rfl,?_⟩ (.cons rfl .nil)⟩;rw[q2,Xw];rfl
def qy (H:Hp) (a:Addr) (ps:List Pl):Prop:=∃kvs,H a=some (.dT kvs)/\kvs.length<=ps.length/\∀p,aV kvs (tkP p)=if p∈ps then some (.int (ps.idxOf p:Nat)) else none
theorem vN (p:Pl) (h:H a=some (.dT [(tkP p,.int 0)])):qy H a [p]:=by
 refine⟨_,h,Qg _,λq=>?_⟩;by_cases c:q=p
 ·subst c;rw[bv rfl,Qs (by simp)];simp
 rw[bx (λz=>c (oY z).symm),Qn (by simpa using c)];rfl
variable {kvs:List (av × V)}
theorem vM {ps:List Pl} {p:Pl} (hp:p∉ps) (hv:∀p,aV kvs (tkP p)=if p∈ps then some (.int (ps.idxOf p:Nat)) else none) (q:Pl):aV (bq kvs (tkP p) (.int (ps.length:Nat))) (tkP q)=if q∈ps++[p] then some (.int ((ps++[p]).idxOf q:Nat)) else none:=by
 rw[cX,hv,List.idxOf_append];by_cases c:q=p
 ·subst c;rw[Qs rfl,Qs (by simp),Qn hp];simp
 rw[Qn (λz=>c (oY z))];by_cases d:q∈ps
 ·rw[Qs d,Qs (by simp[d]),Qs d]
 rw[Qn d,Qn (by simp[c,d])]
def SgA (H:Hp) (v:V) (p:Str × Nat):Prop:=∃b,v=.ref b/\H b=some (.tup [.str p.1,.int (p.2:Int)])
def lu (H:Hp) (l:Addr) (nd:Nd):Prop:=∃vs,H l=some (.lst vs)/\Paired (SgA H) vs nd
def lg (H:Hp) (l:Addr) (w:List Tu):Prop:=∃vs,H l=some (.lst vs)/\Paired (TuA H) vs w
theorem SgA.kt {p:Str × Nat} (k:a9 H H') (h:SgA H v p):SgA H' v p:=let ⟨b,e,q⟩:=h;⟨b,e,k _ _ q⟩
theorem lu.keep {nd:Nd} (k:a9 H H') (kl:∀vs,H l=some (.lst vs)->H' l=some (.lst vs)) (h:lu H l nd):lu H' l nd:=let ⟨vs,e,q⟩:=h;⟨vs,kl _ e,ad (λ_ _ h=>h.kt k) q⟩
theorem lg.keep {w:List Tu} (k:a9 H H') (kl:∀vs,H l=some (.lst vs)->H' l=some (.lst vs)) (h:lg H l w):lg H' l w:=let ⟨vs,e,q⟩:=h;⟨vs,kl _ e,ad (λ_ _ h=>h.kt k) q⟩
noncomputable def zV (H0 H:Hp) (v:V) (r:Rg):Res->Prop
 | .odd way w=>∃a l,v=.ref a/\H a=some (.tup [.str "odd", .ref l,.str w])/\H0 l=none/\lg H l way
 | .many=>∃a,v=.ref a/\H a=some (.tup [.str "many"])
 | .sheet nds=>∃(a s li lo ln:Addr) (nas:A3),v=.ref a/\H a=some (.tup [.str "sheet", .ref s])/\H s=some (.tup [.ref li,.ref lo,.str r.z,.ref ln])/\H li=some (.lst (r.ins.map V.str))/\H lo=some (.lst (r.outs.map V.str))/\H ln=some (.lst (nas.map V.ref))/\Paired (lu H) nas nds/\(li::lo::ln::nas).Nodup/\∀b∈li::lo::ln::nas,H0 b=none
def sx:Sp:=λvs H Q _=>∃(a li lo l:Addr) (as:List V) (r:Rg),vs=[.ref a]/\RgA H a li lo l as r/\RgOk r/\∀v ts H',ak H H'->Wt r ts->zV H H' v r (unf r ts)->Q v H'
theorem w4 {Os:A3} (no:∀b∈Os,∀ys,H b≠some (.tup ys)) (kb:∀b o,H b=some o->b∉Os->H' b=some o):a9 H H':=λb ys e=>kb b _ e λz=>no b z ys e
theorem bA {α β:Type} {F G:α->β->Prop}:∀{xs:List α} {ys:List β},Paired F xs ys->(∀a b,a∈xs->F a b->G a b)->Paired G xs ys
 | _,_,.nil,_=>.nil
 | _,_,.cons r t,h=>.cons (h _ _ (by simp) r) (bA t λa b ha=>h a b (Qp _ ha))
structure UI (H0 H:Hp) (Lp Ln Lw Lo:Addr) (x:Sx) (pv:List V) (was nas:A3) (nds:List Nd):Prop where
 s:ak H0 H
 p:H Lp=some (.lst pv)
 pp:Paired (PlA H) pv x.ps
 n:qy H Ln x.ps
 w:H Lw=some (.lst (was.map V.ref))
 wp:Paired (lg H) was x.ws
 o:H Lo=some (.lst (nas.map V.ref))
 op:Paired (lu H) nas nds
 ap:∀b∈was++nas,b∉[Lp,Ln,Lw,Lo]
 nd:nas.Nodup
 nw:∀b∈nas,H0 b=none
 dl:[Lp,Ln,Lw,Lo].Nodup
 new:∀b∈[Lp,Ln,Lw,Lo],H0 b=none
section
variable {H0 H H':Hp} {Lp Ln Lw Lo:Addr} {x:Sx} {pv:List V} {was nas:A3} {nds:List Nd}
theorem UI.keep {N:Addr} (u:UI H0 H Lp Ln Lw Lo x pv was nas nds) (s:ak H0 H') (kt:a9 H H') (kb:∀b o,H b=some o->b≠N->H' b=some o) (n:N∉Lp::Ln::Lw::Lo::(was++nas)):UI H0 H' Lp Ln Lw Lo x pv was nas nds:=by
 have ne:∀b∈Lp::Ln::Lw::Lo::(was++nas),b≠N:=λb hb z=>n (z▸hb);have inn:∀b∈was++nas,b≠N:=λb hb=>ne b (by simp only[Qj];exact .inr (.inr (.inr (.inr hb))));refine⟨s,kb _ _ u.p (ne _ (by simp)),ad (λ_ _ h=>h.kt kt) u.pp,?_,kb _ _ u.w (ne _ (by simp)),?_,kb _ _ u.o (ne _ (by simp)),?_,u.ap,u.nd,u.nw,u.dl,u.new⟩
 ·obtain⟨kvs,h,r⟩:=u.n;exact⟨kvs,kb _ _ h (ne _ (by simp)),r⟩
 ·exact bA u.wp λb w hb h=>h.keep kt λvs e=>kb _ _ e (inn b (Xa _ hb))
 exact bA u.op λb w hb h=>h.keep kt λvs e=>kb _ _ e (inn b (QI _ hb))
theorem UI.same (u:UI H0 H Lp Ln Lw Lo x pv was nas nds) (S:ak H H'):UI H0 H' Lp Ln Lw Lo x pv was nas nds:=by
 refine⟨u.s.trans S,S _ _ u.p,ad (λ_ _ h=>h.kt (ak.tups S)) u.pp,?_,S _ _ u.w,?_,S _ _ u.o,?_,u.ap,u.nd,u.nw,u.dl,u.new⟩
 ·obtain⟨kvs,h,r⟩:=u.n;exact⟨kvs,S _ _ h,r⟩
 ·exact ad (λb w h=>h.keep (ak.tups S) λvs e=>S _ _ e) u.wp
 exact ad (λb w h=>h.keep (ak.tups S) λvs e=>S _ _ e) u.op
theorem UI.more {p:Pl} {w:List Tu} {v:V} {wl:Addr} (u:UI H0 H Lp Ln Lw Lo x pv was nas nds) (kb:∀b o,H b=some o->b∉[Lp,Ln,Lw]->H' b=some o) (hp:H' Lp=some (.lst (pv++[v]))) (pa:PlA H' v p) (hn:qy H' Ln (x.ps++[p])) (hw:H' Lw=some (.lst ((was++[wl]).map V.ref))) (wy:lg H' wl w) (nw:H wl=none) :
  a9 H H'/\UI H0 H' Lp Ln Lw Lo ⟨x.ps++[p],x.ws++[w]⟩ (pv++[v]) (was++[wl]) nas nds:=by
 obtain⟨kvs,en,_⟩:=id u.n;have dl:=u.dl;simp only[QS,Qj,QE,Xi,not_or]at dl
 have kt:a9 H H':=w4 (Os:=[Lp,Ln,Lw]) (λb hb ys e=>by
  simp only[Qj,QE,Xi]at hb;rcases hb with rfl|rfl|rfl
  ·rw[u.p]at e;cases e
  ·rw[en]at e;cases e
  rw[u.w]at e;cases e) kb
 have kb':∀b o,H b=some o->b∉[Lp,Ln,Lw,Lo]->H' b=some o:=λb o e n=>kb b o e λz=>n (by simp only[Qj,QE,Xi]at z ⊢;rcases z with z|z|z <;> simp[z]);refine⟨kt,λb o e=>kb b o (u.s _ _ e) λz=>?_,hp,aU (ad (λ_ _ h=>h.kt kt) u.pp) pa,hn,hw,aU (bA u.wp λb w hb h=>h.keep kt λvs e=>kb' _ _ e (u.ap b (Xa _ hb))) wy,kb _ _ u.o (by simp only[Qj,QE,Xi,not_or];exact⟨λz=>dl.1.2.2 z.symm,λz=>dl.2.1.2 z.symm,λz=>dl.2.2.1 z.symm⟩),bA u.op λb w hb h=>h.keep kt λvs e=>kb' _ _ e (u.ap b (QI _ hb)),λb hb=>?_,u.nd,u.nw,u.dl,u.new⟩
 ·rw[u.new b (by simp only[Qj,QE,Xi]at z ⊢;rcases z with z|z|z <;> simp[z])]at e;cases e
 rw[XN,Qz,Qz,Qv]at hb;rcases hb with hb|rfl|hb
 ·exact u.ap b (Xa _ hb)
 ·intro z;simp only[Qj,QE,Xi]at z;rcases z with rfl|rfl|rfl|rfl
  ·rw[u.p]at nw;cases nw
  ·rw[en]at nw;cases nw
  ·rw[u.w]at nw;cases nw
  rw[u.o]at nw;cases nw
 exact u.ap b (QI _ hb)
theorem UI.node {N:Addr} {nd:Nd} (u:UI H0 H Lp Ln Lw Lo x pv was nas nds) (at_:lu H N nd) (n:N∉Lp::Ln::Lw::Lo::(was++nas)) (h0:H0 N=none):UI H0 (upd H Lo (.lst ((nas++[N]).map V.ref))) Lp Ln Lw Lo x pv was (nas++[N]) (nds++[nd]):=by
 obtain⟨kvs,en,r⟩:=id u.n;have dl:=u.dl;simp only[QS,Qj,QE,Xi,not_or]at dl;have kt:a9 H (upd H Lo (.lst ((nas++[N]).map V.ref))):=bU u.o;have kb:∀b o,H b=some o->b≠Lo->upd H Lo (.lst ((nas++[N]).map V.ref)) b=some o:=λb o e z=>by rw[ah z];exact e
 simp only[Qj,not_or]at n;have inn:∀b∈was++nas,b≠Lo:=λb hb z=>u.ap b hb (by rw[z];simp);refine⟨λb o e=>kb b o (u.s _ _ e) λz=>?_,kb _ _ u.p dl.1.2.2,ad (λ_ _ h=>h.kt kt) u.pp,⟨kvs,kb _ _ en dl.2.1.2,r⟩,kb _ _ u.w dl.2.2.1,bA u.wp λb w hb h=>h.keep kt λvs e=>kb _ _ e (inn b (Xa _ hb)),ag,aU (bA u.op λb w hb h=>h.keep kt λvs e=>kb _ _ e (inn b (QI _ hb))) (at_.keep kt λvs e=>kb _ _ e n.2.2.2.1),λb hb=>?_,?_,λb hb=>?_,u.dl,u.new⟩
 ·rw[z,u.new Lo (by simp)]at e;cases e
 ·rw[<-XN,Qz,Qv]at hb;rcases hb with hb|rfl
  ·exact u.ap b hb
  simp only[Qj,QE,Xi,not_or];exact⟨n.1,n.2.1,n.2.2.1,n.2.2.2.1⟩
 ·rw[XC];refine⟨u.nd,by simp,λa ha b hb=>?_⟩;rw[Qv.mp hb];exact λz=>n.2.2.2.2 (QI _ (z▸ha))
 rcases Qz.mp hb with hb|hb
 ·exact u.nw b hb
 rw[Qv.mp hb];exact h0
end
structure IV (H0 Hs H:Hp) (Lp Ln Lw Lo N q:Addr) (r:Rg) (x:Sx) (pv:List V) (was nas:A3) (nds:List Nd) (p:Pl) (way:List Tu) (sv ndv:List V) (nd:Nd):Prop where
 u:UI H0 H Lp Ln Lw Lo x pv was nas nds
 xo:x.Ok r
 kt:a9 Hs H
 hq:H q=some (.lst sv)
 hN:H N=some (.lst ndv)
 pn:Paired (SgA H) ndv nd
 nN:N∉Lp::Ln::Lw::Lo::(was++nas)
 nq:q∉[Lp,Ln,Lw,N]
 gp:x.ps[nds.length]?=some p
 gw:x.ws[nds.length]?=some way
 N0:H0 N=none
section
variable {H0 Hs H H':Hp} {Lp Ln Lw Lo N q:Addr} {r:Rg} {x:Sx} {pv:List V} {was nas:A3} {nds:List Nd} {p:Pl} {way:List Tu} {sv ndv:List V} {nd:Nd}
theorem IV.same (i:IV H0 Hs H Lp Ln Lw Lo N q r x pv was nas nds p way sv ndv nd) (S:ak H H'):IV H0 Hs H' Lp Ln Lw Lo N q r x pv was nas nds p way sv ndv nd :=
 ⟨i.u.same S,i.xo,λb ys e=>S _ _ (i.kt b ys e),S _ _ i.hq,S _ _ i.hN,ad (λ_ _ h=>h.kt (ak.tups S)) i.pn,i.nN,i.nq,i.gp,i.gw,i.N0⟩
theorem IV.put {v:V} {e:Str × Nat} (i:IV H0 Hs H Lp Ln Lw Lo N q r x pv was nas nds p way sv ndv nd) (h:SgA H v e):IV H0 Hs (upd H N (.lst (ndv++[v]))) Lp Ln Lw Lo N q r x pv was nas nds p way sv (ndv++[v]) (nd++[e]):=by
 have kt:a9 H (upd H N (.lst (ndv++[v]))):=bU i.hN;have kb:∀b o,H b=some o->b≠N->upd H N (.lst (ndv++[v])) b=some o:=λb o e z=>by rw[ah z];exact e
 have nq:=i.nq;simp only[Qj,QE,Xi,not_or]at nq;exact⟨i.u.keep (bO i.u.s i.N0) kt kb i.nN,i.xo,λb ys e=>kt _ _ (i.kt b ys e),kb _ _ i.hq nq.2.2.2,ag,aU (ad (λ_ _ h=>h.kt kt) i.pn) (h.kt kt),i.nN,i.nq,i.gp,i.gw,i.N0⟩
theorem IV.more {p':Pl} {w':List Tu} {v:V} {wl:Addr} (i:IV H0 Hs H Lp Ln Lw Lo N q r x pv was nas nds p way sv ndv nd) (xo:Sx.Ok r ⟨x.ps++[p'],x.ws++[w']⟩) (kb:∀b o,H b=some o->b∉[Lp,Ln,Lw]->H' b=some o) (hp:H' Lp=some (.lst (pv++[v]))) (pa:PlA H' v p') (hn:qy H' Ln (x.ps++[p'])) (hw:H' Lw=some (.lst ((was++[wl]).map V.ref))) (wy:lg H' wl w') (nw:H wl=none) :
  a9 H H'/\IV H0 Hs H' Lp Ln Lw Lo N q r ⟨x.ps++[p'],x.ws++[w']⟩ (pv++[v]) (was++[wl]) nas nds p way sv ndv nd:=by
 obtain⟨kt,u'⟩:=i.u.more kb hp pa hn hw wy nw;have nq:=i.nq;have nN:=i.nN;simp only[Qj,Qz,QE,Xi,not_or]at nq nN;refine⟨kt,u',xo,λb ys e=>kt _ _ (i.kt b ys e),kb _ _ i.hq (by simp only[Qj,QE,Xi,not_or];exact⟨nq.1,nq.2.1,nq.2.2.1⟩),kb _ _ i.hN (by simp only[Qj,QE,Xi,not_or];exact⟨nN.1,nN.2.1,nN.2.2.1⟩),ad (λ_ _ h=>h.kt kt) i.pn,?_,i.nq,?_,?_,i.N0⟩
 ·simp only[Qj,Qz,QE,Xi,not_or];exact⟨nN.1,nN.2.1,nN.2.2.1,nN.2.2.2.1,⟨nN.2.2.2.2.1,(aG i.hN nw).symm⟩,nN.2.2.2.2.2⟩
 ·rw[QG (Qc.mp i.gp).1];exact i.gp
 rw[QG (Qc.mp i.gw).1];exact i.gw
end
section
theorem lK:FnScope ["ring_sheet", "places", "numbers", "ways", "nodes", "at", "node", "step", "word"] ["ring_sheet"] (aw (top 22)):=by fin2
theorem xV {f:Addr} {fd:FuncData} (Fu:Fun K "unfolded" "unfolded" (top 22) f fd) (T:Txt K mg TT) (f_first_marks:Fn P w K mg base "first_marks" ["arcs"] 2 pw) (f_steps_at:Fn P w K mg base "steps_at" ["ring_sheet", "place"] 4 pi) (f_odd_word:Fn P w K mg base "odd_word" ["ring_sheet", "place", "step"] 2 wM):FnOk P w K mg base CX0 5 f fd ["ring_sheet"] sx:=by
 have S:=lK;refine Fu.ok S (by room) (λcdv A outer s H vs Q E hr h=>?_);obtain⟨a,li,lo,l,as,r,rfl,at_,ok,k⟩:=h;have hu:=cB hr;obtain⟨_,gMN⟩:=T.mNODES;have ha:=at_.ha;obtain⟨ts,wt⟩:=yD r;refine'⟨?_,?bb,?_⟩
 case bb =>
  walk_at "b";refine' aE 1 S.nd ?e
  case e =>
   walk_at "q";exact(aH f_first_marks hr (aa (ao ax (pv 0) af) ac se_sub));exact(ao ax (pv 0) af)
  exact aE 2 S.nd (tG hu (ao aD (pv 1) af) af);refine' aE 3 S.nd ?e
  case e =>
   walk_at "q"
  exact aE 4 S.nd (a_ ac);refine' fI PassesOwn.never ?_ ?_;rotate_left 2;exact(aB l_ (aF az (by rfl) T.n_len QV (aa (pv 4) ac ae)) (aF az (by rfl) T.n_len QV (aa (pv 1) ac ae)) (aJ _));walk_at "p";exact aE 5 S.nd (aF az (by rfl) T.n_len QV (aa (pv 4) ac ae));exact aE 6 S.nd (a_ ac);walk_at "f";exact(br (aH f_steps_at hr (aa (pv 0) (aa (ao aD (pv 1) (pv 5)) ac) ae)));exact(bD 7 S.nd);walk_at "p";exact aE 8 S.nd (aH f_odd_word hr (aa (pv 0) (aa (ao aD (pv 1) (pv 5)) (aa (pv 7) ac ae)) ae));exact(aB pO (pv 8) nO rfl);refine' aW ?e
  case e =>
   walk_at "q";exact(aO fj (ao aD (pv 3) (pv 5)) (a_ (aa (ao ax (pv 7) af) ac se_sub)));exact(pv 8)
  exact(nK (jw hu (ao ax (pv 7) af) (pv 2)));exact(aB dP (aF az (by rfl) T.n_len QV (aa (pv 1) ac ae)) (kA (v:=.int 40) (by rfl) gMN ⟨_,rfl⟩) (aJ _));exact(aW (be (aa aI ac ay)));exact(dE hu (pv 2) (ao ax (pv 7) af) (aF az (by rfl) T.n_len QV (aa (pv 1) ac ae)) rfl);exact(bM (bE QB Q4 Q5 bn (pv 1) (aa (ao ax (pv 7) af) ac)));refine' bM (bE QB Q4 Q5 bn (pv 3) ?a)
  case a =>
   walk_at "q";exact(aO fj (ao aD (pv 3) (pv 5)) (a_ (aa (ao ax (pv 7) af) ac se_sub)))
  refine' bM (bE QB Q4 Q5 bn (pv 6) ?a)
  case a =>
   walk_at "q";exact(ao ax (ao ax (pv 7) af) af);exact(eJ hu (pv 2) (ao ax (pv 7) af))
  exact(bM (bE QB Q4 Q5 bn (pv 4) (aa (pv 6) ac ae)));refine' aW ?e
  case e =>
   walk_at "q";exact(bw dL (by rfl) T.n_list PyProof.Rows.boot_list (aa (ao ax (pv 0) af) ac));exact(bw dL (by rfl) T.n_list PyProof.Rows.boot_list (aa (ao ax (pv 0) af) ac));exact(ao ax (pv 0) af);exact(pv 4)
 x_go;lk;refine⟨l,as,r,rfl,at_.arcs,ok,λm0 H1 S1 hm0=>?_⟩;have ha1:=S1 _ _ ha;lk;refine⟨by simp[sizeLine],λp0 hp0=>?_⟩;generalize hE:upd H1 p0 _=H2;obtain⟨S2,q2⟩:=aj hp0 hE;lk;refine⟨by simp[sizeLine],λLp hLp=>?_⟩;generalize hE:upd H2 Lp _=H3;obtain⟨S3,q3⟩:=aj hLp hE;refine λLn hLn=>?_;generalize hE:upd H3 Ln _=H4;obtain⟨S4,q4⟩:=aj hLn hE;have q34:=S4 _ _ q3;lk;have ep:a9 H2 H4:=ak.tups (S3.trans S4);have pl0:PlA H2 (.ref p0) (mks r.arcs,r.z):=⟨p0,m0,rfl,q2,S2 _ _ hm0⟩;refine⟨q4,p0,_,rfl,(pl0.kt ep).tk,?_⟩;generalize hE:upd H4 Ln _=H5;have q5:H5 Ln=some (.dT [(tkP (mks r.arcs,r.z),.int 0)]):=by rw[<-hE];exact ag
 have S5:ak H3 H5:=by rw[<-hE];exact bO S4 hLn
 lk;refine⟨by simp[sizeLine],λw0 hw0=>?_⟩;generalize hE:upd H5 w0 _=H6;obtain⟨S6,q6⟩:=aj hw0 hE;lk;refine⟨by simp[sizeLine],λLw hLw=>?_⟩;generalize hE:upd H6 Lw _=H7;obtain⟨S7,q7⟩:=aj hLw hE;lk;refine⟨by simp[sizeLine],λLo hLo=>?_⟩;generalize hE:upd H7 Lo _=H8;obtain⟨S8,q8⟩:=aj hLo hE
 have ui:UI H H8 Lp Ln Lw Lo (Sx.first r) [.ref p0] [w0] [] []:=by
  have S68:=(S6.trans S7).trans S8;have S38:=S5.trans S68;have n1:Ln≠Lp:=aG q3 hLn;have n2:Lw≠Lp:=aG (S6 _ _ (S5 _ _ q3)) hLw;have n3:Lo≠Lp:=aG (S7 _ _ (S6 _ _ (S5 _ _ q3))) hLo;have n4:Lw≠Ln:=aG (S6 _ _ q5) hLw;have n5:Lo≠Ln:=aG (S7 _ _ (S6 _ _ q5)) hLo;have n6:Lo≠Lw:=aG q7 hLo;refine⟨((S1.trans S2).trans S3).trans S38,S38 _ _ q3,.cons (pl0.kt (ak.tups (S3.trans S38))) .nil,vN _ (S68 _ _ q5),S8 _ _ q7,.cons ⟨[],S8 _ _ (S7 _ _ q6),.nil⟩ .nil,q8,.nil,λb hb=>?_,.nil,(λb hb=>nomatch hb),?_,λb hb=>?_⟩
  ·rw[XG,Qv]at hb;subst hb;simp only[Qj,QE,Xi,not_or];exact⟨aG (S5 _ _ q3) hw0,aG q5 hw0,(aG q6 hLw).symm,(aG (S7 _ _ q6) hLo).symm⟩
  ·simp only[QS,Qj,QE,Xi,not_or,not_false_iff,List.nodup_nil,and_true];exact⟨⟨n1.symm,n2.symm,n3.symm⟩,⟨n4.symm,n5.symm⟩,n6.symm⟩
  have S12:=S1.trans S2;have S13:=S12.trans S3;have S16:=S13.trans (S5.trans S6);simp only[Qj,QE,Xi]at hb;rcases hb with rfl|rfl|rfl|rfl
  ·exact bJ S12 hLp
  ·exact bJ S13 hLn
  ·exact bJ S16 hLw
  exact bJ (S16.trans S7) hLo
 refine aA (s_seq ?_);let I2:IvF:=λm σ H'=>∃x pv was nas nds y5 y6 y7 y8,σ=[some (.ref a),some (.ref Lp),some (.ref Ln),some (.ref Lw),some (.ref Lo),y5,y6,y7,y8]/\UI H H' Lp Ln Lw Lo x pv was nas nds/\x.Ok r/\nds.length<=x.ps.length/\m+nds.length=40/\K2.outer r ts (m+1) x nds=unf r ts;refine⟨I2,⟨40,_,_,_,_,_,none,none,none,none,rfl,ui,uz ok,QT _,rfl,rfl⟩,?_⟩;rintro m σ H' ⟨x,pv,was,nas,nds,y5,y6,y7,y8,rfl,u,xo,hn,hm,hR⟩;have hLp':=u.p;have hLo':=u.o;have lp:=am u.pp;have lo_:=am u.op;have at':=at_.same u.s;lk;rw[Qd,lo_,lp];unfold K2.outer at hR;by_cases c:nds.length<x.ps.length
 ·refine ifT (Qu (by omega)) ?_;rw[Qs c]at hR;obtain⟨m1,rfl⟩:∃m1,m=m1+1:=⟨m-1,by have:=xo.2.2.1;omega⟩;refine⟨_,λσ' H2 h=>⟨m1,Nat.lt_succ_self _,h⟩,?_⟩;have gp:=Sx.p_mem c;have gw:=Sx.w_mem (x:=x) (i:=nds.length) (by rw[xo.1];exact c);generalize x.p nds.length=p at hR gp;generalize x.wy nds.length=way at hR gw;have po:=xo.2.2.2.1 p (Qh gp);obtain⟨vp,gvp,plp⟩:=aX u.pp gp;lk;rw[Qd,lo_];refine⟨by simp[sizeLine],λN hN=>?_⟩;generalize hE:upd H' N _=G1;obtain⟨T1,qN⟩:=aj hN hE;have uN:=u.same T1;have hLp1:=uN.p;lk;refine bj (SqL.of hLp1) (aY gvp) ?_;refine bo ⟨a,li,lo,l,as,r,vp,p,rfl,at'.same T1,ok,plp.kt (ak.tups T1),po,λq sv ts' G2 T2 nq hq wt' psv=>?_⟩;obtain rfl:ts'=ts:=wt'.one wt λ_=>Iff.rfl;refine⟨q,rfl,⟨_,SqL.of hq⟩,?_⟩
  have iv:IV H G2 G2 Lp Ln Lw Lo N q r x pv was nas nds p way sv [] []:=by
   have u2:=uN.same T2;obtain⟨kvs,en,_⟩:=id uN.n;obtain⟨kvs',en',_⟩:=id u.n
   have was_at:∀b∈was++nas,∃o,H' b=some o:=λb hb=>by
    rcases Qz.mp hb with hb|hb
    ·obtain⟨i,hi,rfl⟩:=Xe hb;obtain⟨y,_,vs,e,_⟩:=paired_get u.wp (Qb hi);exact⟨_,e⟩
    obtain⟨i,hi,rfl⟩:=Xe hb;obtain⟨y,_,vs,e,_⟩:=paired_get u.op (Qb hi);exact⟨_,e⟩
   refine⟨u2,xo,λ_ _ e=>e,hq,T2 _ _ qN,.nil,?_,?_,gp,gw,bJ u.s hN⟩
   ·simp only[Qj,not_or];refine⟨aG u.p hN,aG en' hN,aG u.w hN,aG u.o hN,λz=>?_⟩;obtain⟨o,e⟩:=was_at _ z;rw[e]at hN;cases hN
   simp only[Qj,QE,Xi,not_or];exact⟨aG uN.p nq,aG en nq,aG uN.w nq,aG qN nq⟩
  generalize eR:bu r p.2 way (bH r ts' p) x []=R at hR;let I3:IvF:=λi σ H2=>∃x pv was ndv nd y7 y8,σ=[some (.ref a),some (.ref Lp),some (.ref Ln),some (.ref Lw),some (.ref Lo),some (.int (nds.length:Nat)),some (.ref N),y7,y8]/\IV H G2 H2 Lp Ln Lw Lo N q r x pv was nas nds p way sv ndv nd/\bu r p.2 way ((bH r ts' p).drop i) x nd=R/\nd.length=i;refine bY (xs:=sv) I3 ⟨x,pv,was,[],[],y7,y8,rfl,iv,by rw[List.drop_zero];exact eR,rfl⟩ (λi σ H2 _ ⟨_,_,_,_,_,_,_,_,iv,_⟩=>SqL.of iv.hq) (λi v σ H2 ev h=>?_) (λσ H2 h=>?_)
  ·obtain⟨x,pv,was,ndv,nd,y7,y8,rfl,iv,hI,hnd⟩:=h;obtain⟨s,es,sa⟩:=paired_get psv ev;have sa:=sa.kt iv.kt;obtain⟨sb,v1,v2,rfl,hsb,tu,pl2⟩:=id sa;obtain⟨ta,rfl,hta⟩:=id tu;obtain⟨pb,mb,rfl,hpb,hmb⟩:=id pl2;obtain⟨vp,gvp,plp⟩:=aX iv.u.pp iv.gp;obtain⟨t,mt,et⟩:=Ql.mp (Qh es);obtain⟨mt,may⟩:=QP.mp mt;have tok:=Wt.ok ok wt mt;have ssl:(bH r ts' p).length<=10:=by unfold bH;rw[Qd];exact QQ (List.length_filter_le _ _) (Wt.few ok wt)
   have il:=(Qc.mp es).1;have ndl:=am iv.pn;have big:1000<sizeLine:=by decide
   rw[List.drop_eq_getElem_cons il,(Qc.mp es).2]at hI;have hLp2:=iv.u.p;have at2:=at_.same iv.u.s;lk;refine bj (SqL.of hLp2) (aY gvp) ?_;lk;refine⟨a,li,lo,l,as,r,vp,.ref sb,p,s,rfl,at2,ok,plp,po,sa,by rw[<-et];exact tok,λG3 T3=>?_⟩;have iv3:=iv.same T3;have hsb3:=T3 _ _ hsb;have hta3:=T3 _ _ hta;lk;refine⟨rfl,_,rfl,?_⟩
   cases co:cT r p.2 s with
   | some wd =>
    refine ifT (by rw[Qw (λz=>by cases z)];rfl) ?_;have hLw3:=iv3.u.w;obtain⟨wl,gwl,wvs,hwl,wpr⟩:=aX iv3.u.wp iv3.gw;have wl10:way.length<41:=by have:=iv3.xo.2.2.2.2 way (Qh iv3.gw);have:=iv3.xo.1;have:=iv3.xo.2.2.1;omega
    lk;refine bj (SqL.of hLw3) (aY (by rw[Qq,gwl];rfl)) ?_;lk;refine⟨by simp[sizeLine],λp1 h1=>?_⟩;generalize hE:upd G3 p1 _=G4;obtain⟨T4,q4⟩:=aj h1 hE;have wl2:=am wpr;refine iE (T4 _ _ hwl) q4 (by rw[QK];omega) λp2 h2=>?_;generalize hE:upd G4 p2 _=G5;obtain⟨T5,q5⟩:=aj h2 hE;lk;refine⟨by simp[sizeLine],λp3 h3=>?_⟩;generalize hE:upd G5 p3 _=G6;obtain⟨T6,q6⟩:=aj h3 hE;have TT:=(T4.trans T5).trans T6;refine k (.ref p3) ts' G6 (iv3.u.s.trans TT) wt ?_
    have eU:unf r ts'=.odd (way++[s.1]) wd:=by
     unfold bu at hI;rw[co]at hI;rw[<-hR,<-hI]
    rw[eU];exact⟨p3,p2,rfl,q6,bJ (iv3.u.s.trans T4) h2,_,T6 _ _ q5,aU (ad (λ_ _ h=>h.kt (ak.tups TT)) wpr) (tu.kt (ak.tups (T3.trans TT)))⟩
   | none =>
   refine ifF rfl ?_;refine s_next ?_;unfold bu at hI;rw[co]at hI;dsimp only at hI;let I4:IvJ:=λσ G=>∃x' pv' was',σ=[some (.ref a),some (.ref Lp),some (.ref Ln),some (.ref Lw),some (.ref Lo),some (.int (nds.length:Nat)),some (.ref N),some (.ref sb),some .non]/\IV H G2 G Lp Ln Lw Lo N q r x' pv' was' nas nds p way sv ndv nd/\a9 G3 G/\s.2∈x'.ps/\bu r p.2 way ((bH r ts' p).drop (i+1)) x' (nd++[(s.1.1,x'.ps.idxOf s.2)])=R;with_reducible refine dj I4 (λRR hJ=>?_) (λσ G h=>?_)
   ·obtain⟨kvs,en,kl,kv⟩:=id iv3.u.n;have pl3:=pl2.kt (ak.tups T3);refine s_if (i_tB (mN ?_));lk;refine⟨Ln,_,rfl,cN.t en pl3.tk,_,rfl,?_⟩;rw[kv];by_cases c:s.2∈x.ps
    ·rw[Qs c]at hI ⊢;exact ifF rfl (s_next (hJ _ _ ⟨x,pv,was,rfl,iv3,λ_ _ e=>e,c,hI⟩))
    rw[Qn c]at hI ⊢;refine ifT rfl ?_;have hLp3:=iv3.u.p;have lp3:=am iv3.u.pp;lk;rw[lp3];by_cases c40:x.ps.length=40
    ·rw[Qs c40]at hI;refine ifT (Qu (by rw[c40];rfl)) ?_;lk;refine⟨by simp[sizeLine],λp3 h3=>?_⟩;generalize hE:upd G3 p3 _=G6;obtain⟨T6,q6⟩:=aj h3 hE;refine k (.ref p3) ts' G6 (iv3.u.s.trans T6) wt ?_;have eU:unf r ts'=.many:=by rw[<-hR,<-hI]
     rw[eU];exact⟨p3,rfl,q6⟩
    rw[Qn c40]at hI;refine ifF (Qw (λz=>c40 (by have:=V.int.inj z;omega))) ?_;kt_k;kt_k;refine fg ?_;lk;rw[lp3];have l40:=iv3.xo.2.2.1;refine⟨Ln,_,rfl,fX.t en pl3.tk (by omega),?_⟩;generalize hE4:upd G3 Ln _=G4;have dl:=iv3.u.dl;simp only[QS,Qj,QE,Xi,not_or]at dl;obtain⟨wl,gwl,wvs,hwl,wpr⟩:=aX iv3.u.wp iv3.gw;have apw:=iv3.u.ap wl (Xa _ (Qh gwl));simp only[Qj,QE,Xi,not_or]at apw;have wl2:=am wpr;have wl10:way.length<x.ws.length:=iv3.xo.2.2.2.2 way (Qh iv3.gw);have wsl:=iv3.xo.1;have k4:∀b o,G3 b=some o->b≠Ln->G4 b=some o:=λb o e z=>by rw[<-hE4,ah z];exact e
    have q4:G4 Ln=some (.dT (bq kvs (tkP s.2) (.int (x.ps.length:Nat)))):=by rw[<-hE4];exact ag
    have hLp4:=k4 _ _ hLp3 dl.1.1;have hsb4:=k4 _ _ hsb3 (λz=>by rw[z,en]at hsb3;cases hsb3);have hta4:=k4 _ _ hta3 (λz=>by rw[z,en]at hta3;cases hta3);lk;refine dQ hLp4 (by omega) ?_;generalize hE5:upd G4 Lp _=G5;have k5:∀b o,G4 b=some o->b≠Lp->G5 b=some o:=λb o e z=>by rw[<-hE5,ah z];exact e
    have q5:G5 Lp=some (.lst (pv++[.ref pb])):=by rw[<-hE5];exact ag
    have hLw5:=k5 _ _ (k4 _ _ iv3.u.w (λz=>dl.2.1.1 z.symm)) (λz=>dl.1.2.1 z.symm);have hwl5:=k5 _ _ (k4 _ _ hwl apw.2.1) apw.1;have hsb5:=k5 _ _ hsb4 (λz=>by rw[z,hLp4]at hsb4;cases hsb4);have hta5:=k5 _ _ hta4 (λz=>by rw[z,hLp4]at hta4;cases hta4);lk;refine bj (SqL.of hLw5) (aY (by rw[Qq,gwl];rfl)) ?_;lk;refine⟨by simp[sizeLine],λp1 h1=>?_⟩;generalize hE:upd G5 p1 _=G6;obtain⟨T6,q6⟩:=aj h1 hE;refine iE (T6 _ _ hwl5) q6 (by rw[QK];omega) λp2 h2=>?_;generalize hE:upd G6 p2 _=G7;obtain⟨T7,q7⟩:=aj h2 hE;have hLw7:=T7 _ _ (T6 _ _ hLw5);have wal:=am iv3.u.wp;refine bo (dQ hLw7 (by rw[Qd];omega) ?_);generalize hE8:upd G7 Lw _=G8;have k8:∀b o,G7 b=some o->b≠Lw->G8 b=some o:=λb o e z=>by rw[<-hE8,ah z];exact e
    have kb:∀b o,G3 b=some o->b∉[Lp,Ln,Lw]->G8 b=some o:=λb o e nb=>by
     simp only[Qj,QE,Xi,not_or]at nb;exact k8 _ _ (T7 _ _ (T6 _ _ (k5 _ _ (k4 _ _ e nb.2.1) nb.1))) nb.2.2
    have no2:2∉s.2.1:=λz=>by
     unfold cT at co;rw[Qs z]at co
     split at co <;> cases co
    have xo':Sx.Ok r ⟨x.ps++[s.2],x.ws++[way++[s.1]]⟩:=by
     refine⟨by rw[Qi,Qi,wsl];rfl,by rw[Qi,QK];omega,by rw[Qi,QK];omega,λp' hp'=>?_,λw' hw'=>?_⟩
     ·rcases Qz.mp hp' with h|h
      ·exact iv3.xo.2.2.2.1 p' h
      rw[Qv.mp h,<-et];exact lG po tok may (by rw[et];exact no2)
     show _<(x.ws++[way++[s.1]]).length;rw[Qi,QK];rcases Qz.mp hw' with h|h
     ·have:=iv3.xo.2.2.2.2 w' h;omega
     rw[Qv.mp h,Qi,QK];omega
    have kt3:a9 G3 G8:=w4 (Os:=[Lp,Ln,Lw]) (λb hb ys e=>by
     simp only[Qj,QE,Xi]at hb;rcases hb with rfl|rfl|rfl
     ·rw[hLp3]at e;cases e
     ·rw[en]at e;cases e
     rw[iv3.u.w]at e;cases e) kb
    have hp2:p2≠Lw:=aG (T6 _ _ hLw5) h2
    have hw2:G3 p2=none:=by
     cases e:G3 p2 with
     | none=>rfl
     | some o =>
     by_cases z1:p2=Lp
     ·rw[z1,T6 _ _ q5]at h2;cases h2
     by_cases z2:p2=Ln
     ·rw[z2,T6 _ _ (k5 _ _ q4 (λz=>dl.1.1 z.symm))]at h2;cases h2
     rw[T6 _ _ (k5 _ _ (k4 _ _ e z2) z1)]at h2;cases h2
    obtain⟨kt8,iv8⟩:=iv3.more (p':=s.2) (w':=way++[s.1]) (v:=.ref pb) (wl:=p2) (H':=G8) xo' kb (k8 _ _ (T7 _ _ (T6 _ _ q5)) dl.1.2.1) (pl3.kt kt3)
     ⟨_,k8 _ _ (T7 _ _ (T6 _ _ (k5 _ _ q4 (λz=>dl.1.1 z.symm)))) dl.2.1.1,QQ (bQ _ _ _) (by rw[Qi,QK];omega),vM c kv⟩
     (by rw[<-hE8,ag,QZ];rfl) ⟨_,k8 _ _ q7 hp2,aU (ad (λ_ _ h=>h.kt kt3) wpr) ((tu.kt (ak.tups T3)).kt kt3)⟩ hw2
    refine hJ _ _ ⟨_,_,_,rfl,iv8,kt8,QI _ (List.mem_singleton_self _),?_⟩;rw[show (x.ps++[s.2]).idxOf s.2=x.ps.length by rw[List.idxOf_append,Qn c];simp];exact hI
   obtain⟨x',pv',was',rfl,iv',kt',ms,hI'⟩:=h;obtain⟨kvs,en,kl,kv⟩:=id iv'.u.n;have hsb':=kt' _ _ hsb3;have hta':=kt' _ _ hta3;have hN':=iv'.hN;have pl':=(pl2.kt (ak.tups T3)).kt kt';lk;refine⟨Ln,_,rfl,by have z:=cN.t en pl'.tk;rw[kv,Qs ms]at z;exact z,?_⟩;lk;refine⟨by simp[sizeLine],λp5 h5=>?_⟩;generalize hE:upd G p5 _=G6;obtain⟨T6,q6⟩:=aj h5 hE;have iv6:=iv'.same T6;refine bo (dQ iv6.hN (by omega) ?_);exact⟨x',pv',was',_,_,_,_,rfl,iv6.put ⟨p5,rfl,q6⟩,hI',by rw[Qi,hnd];rfl⟩
  obtain⟨x,pv,was,ndv,nd,y7,y8,rfl,iv,hI,hnd⟩:=h;rw[List.drop_of_length_le (Nat.le_of_eq (am psv).symm)]at hI;unfold bu at hI;rw[<-hI]at hR;have hLo2:=iv.u.o;have gl:=(Qc.mp iv.gp).1;have big:1000<sizeLine:=by decide
  have l40:=iv.xo.2.2.1;lk;refine dQ hLo2 (by rw[Qd,lo_];omega) ?_;have un:=iv.u.node ⟨ndv,iv.hN,iv.pn⟩ iv.nN iv.N0;rw[QZ]at un;exact⟨x,pv,was,nas++[N],nds++[nd],_,_,_,_,rfl,un,iv.xo,by rw[Qi,QK];exact gl,by rw[Qi,QK];omega,hR⟩
 refine ifF (Qw (by omega)) ?_;rw[Qn c]at hR;have ha':=at'.ha;have hi':=at'.hi;lk;refine λli2 h2=>?_;generalize hE:upd H' li2 _=H9;obtain⟨S9,q9⟩:=aj h2 hE;have ha9:=S9 _ _ ha';have ho9:=S9 _ _ at'.ho;lk;refine λlo2 h3=>?_;generalize hE:upd H9 lo2 _=Ha;obtain⟨Sa,qa⟩:=aj h3 hE;have haa:=Sa _ _ ha9;lk;refine⟨by simp[sizeLine],λs2 h4=>?_⟩;generalize hE:upd Ha s2 _=Hb;obtain⟨Sb,qb⟩:=aj h4 hE;lk;refine⟨by simp[sizeLine],λa2 h5=>?_⟩;generalize hE:upd Hb a2 _=Hc;obtain⟨Sc,qc⟩:=aj h5 hE;have Sall:ak H' Hc:=((S9.trans Sa).trans Sb).trans Sc;refine k (.ref a2) ts Hc (u.s.trans Sall) wt ?_;rw[<-hR];have uc:=u.same Sall;have e1:li2≠Lo:=λz=>by rw[z,hLo']at h2;cases h2
 have e2:lo2≠li2:=λz=>by rw[z,q9]at h3;cases h3
 have e3:lo2≠Lo:=λz=>by rw[z,S9 _ _ hLo']at h3;cases h3
 have nas_at:∀b∈nas,∃o,H' b=some o:=λb hb=>by
  obtain⟨i,hi,rfl⟩:=Xe hb;obtain⟨y,_,vs,e,_⟩:=paired_get u.op (Qb hi);exact⟨_,e⟩
 have e4:li2∉nas:=λz=>by obtain⟨o,e⟩:=nas_at _ z;rw[e]at h2;cases h2
 have e5:lo2∉nas:=λz=>by obtain⟨o,e⟩:=nas_at _ z;rw[S9 _ _ e]at h3;cases h3
 have e6:Lo∉nas:=λz=>u.ap _ (QI _ z) (by simp);refine⟨a2,s2,li2,lo2,Lo,nas,rfl,qc,Sc _ _ qb,Sc _ _ (Sb _ _ (Sa _ _ q9)),Sc _ _ (Sb _ _ qa),uc.o,uc.op,?_,?_⟩
 ·simp only[QS,Qj,not_or];exact⟨⟨e2.symm,e1,e4⟩,⟨e3,e5⟩,e6,u.nd⟩
 intro b hb;simp only[Qj]at hb;rcases hb with rfl|rfl|rfl|hb
 ·exact bJ u.s h2
 ·exact bJ (u.s.trans S9) h3
 ·exact u.new _ (by simp)
 exact u.nw b hb
end
def sD (K:PySem.W.Frag):Sp:=λvs H Q _=>∃(s:Addr) (ns:List Int) (k:Nat),vs=[.ref s,.int (k:Int)]/\SqL K H s (ns.map V.int)/\k<=100/\∀(D:Dk) H',D.n=3700->ak H H'->H D.d=none->D.At H'->Q (.ref D.d) H'
theorem vR {x y:Int} (x0:0<=x) (x1:x<9999999607) (y0:0<=y) (y1:y<=100000):0<=(x+991)*(29*y+59)+3517*y*y/\(x+991)*(29*y+59)+3517*y*y<1000000000000000000:=by
 have a0:0<=(x+991)*(29*y+59):=Int.mul_nonneg (by omega) (by omega);have a1:(x+991)*(29*y+59)<=10000000598*2900059:=Int.mul_le_mul (by omega) (by omega) (by omega) (by omega);have b0:0<=3517*y*y:=Int.mul_nonneg (by omega) y0;have b1:3517*y*y<=351700000*100000:=Int.mul_le_mul (by omega) y1 y0 (by omega);omega
section
theorem lR:FnScope ["script", "k", "cell"] ["script", "k"] (aw (top 24)):=by fin2
theorem vF {f:Addr} {fd:FuncData} (Fu:Fun K "_law_pool" "_law_pool" (top 24) f fd) (T:Txt K mg TT):FnOk P w K mg base CX0 1 f fd ["script", "k"] (sD K):=by
 have S:=lR;refine Fu.ok S (by room) (λcdv A outer s H vs Q E hr h=>?_);obtain⟨s,ns,k,rfl,hS,k100,q⟩:=h
 refine⟨_,(pss_cons (kw (i:=2) S.nd rfl (by z_go) af)
  (pss_cons (ps_if (aB l_ (pv 1) (aF az (by rfl) T.n_len QV (aa (pv 0) ac ae)) (aJ _)) (pss_one (aE 2 S.nd (ao aD (pv 0) (pv 1)))) pss_nil)
  (pss_cons (ps_if (aB wX (pv 2) (aO tK af af) (aJ _)) (pss_one (aW (a_ (aa (aO f9 (pv 2) (aO tK af af)) (aa af (aa af ac ay) ay))))) pss_nil)
  (pss_one (aW (a_ (aa (pv 2) (aa af (aa (aO d7 af (pv 1)) ac) ay) ae))))))),?_⟩
 x_go;lk;refine⟨_,_,rfl,Or.inl hS,?_⟩;lk;rw[Qd]
 have J:∀(a b:Int) p,0<=b->b<=3700->H p=none->∀x,upd H p (.lst [.int a,.int x,.int b])=upd H p (.lst [.int a,.int x,.int b])->Q (.ref p) (upd H p (.lst [.int a,.int x,.int b])):=λa b p b0 b1 hp x _ =>
  q ⟨p,3700⟩ _ rfl (ar hp) hp ⟨_,_,_,ag,b0,b1⟩
 by_cases c:k<ns.length
 ·refine ifT (Qu (by omega)) ?_;lk;refine bj (v:=.int ns[k]) hS (aY (by rw[Qq,Qb c];rfl)) ?_;lk
  first|refine i_rI ⟨by decide,by decide,by decide⟩ ?_|skip
  lk;refine mK (λ_=>?_) (λ_=>?_)
  ·lk
   first|refine i_rI ⟨by decide,by decide,by decide⟩ ?_|skip
   lk;refine⟨by simp[sizeLine],λp hp=>?_⟩;exact J _ _ p (by omega) (by omega) hp _ rfl
  lk;refine⟨by simp[sizeLine],λp hp=>?_⟩;exact J _ _ p (by omega) (by omega) hp _ rfl
 refine ifF (Qw (by omega)) ?_;lk
 first|refine i_rI ⟨by decide,by decide,by decide⟩ ?_|skip
 lk;refine mK (λ_=>?_) (λ_=>?_)
 ·lk
  first|refine i_rI ⟨by decide,by decide,by decide⟩ ?_|skip
  lk;refine⟨by simp[sizeLine],λp hp=>?_⟩;exact J _ _ p (by omega) (by omega) hp _ rfl
 lk;refine⟨by simp[sizeLine],λp hp=>?_⟩;exact J _ _ p (by omega) (by omega) hp _ rfl
theorem lP:FnScope ["pool", "many", "found", "step", "mark"] ["pool", "many"] (aw (top 25)):=by fin2
theorem vC {f:Addr} {fd:FuncData} (Fu:Fun K "_law_take" "_law_take" (top 25) f fd) (T:Txt K mg TT):FnOk P w K mg base CX0 1 f fd ["pool", "many"] fc:=by
 have S:=lP;refine Fu.ok S (by room) (λcdv A outer s H vs Q E hr h=>?_);obtain⟨D,m,rfl,DA,n1,h1,h2,k⟩:=h
 refine⟨_,(pss_cons (ps_if (aB dP (ao aD (pv 0) af) af (aJ _)) (pss_cons (aE 2 S.nd (aO f_ (ao aD (pv 0) af) (pv 1)))
  (pss_cons (sZ (aO pP (ao aD (pv 0) af) (pv 1)) (tw (pv 0) af lJ))
  (pss_one (aW (pv 2))))) pss_nil)
  (pss_cons (sZ (aO bX (ao aD (pv 0) af) af) (tw (pv 0) af lJ))
  (pss_cons (aE 3 S.nd (ao aD (pv 0) af))
  (pss_cons (aE 4 S.nd (aO d7 (aO bX (aO f_ (ao aD (pv 0) af) af) af) (aO bX (aO d7 af (pv 3)) af)))
  (pss_cons (aE 4 S.nd (aO bX (pv 4) (aO d7 (aO d7 af (pv 3)) (pv 3))))
  (pss_cons (aE 4 S.nd (aO f_ (aO d7 (pv 4) (pv 4)) af))
  (pss_one (aW (aO f_ (aO pP (aO f_ (aO d7 (pv 4) (aO bX (pv 4) af)) af) af) (pv 1)))))))))),?_⟩
 x_go;obtain⟨a,b,c,hd,c0,c1⟩:=id DA;lk;refine mK (λ_=>?_) (λ_=>?_)
 ·lk
  first|refine i_rI (show (0:Int)<m by omega) ?_|skip
  lk
  first|refine i_rI ⟨by omega,by omega⟩ ?_|skip
  lk;exact k _ _ (Int.emod_nonneg _ (by omega)) (Int.emod_lt_of_pos _ (by omega)) ((w6 (D:=D) c0 c1).le (QM _ _))
 lk;have hd2:upd H D.d (HO.lst ([V.int a,V.int b,V.int c].set (Int.toNat 2) (V.int (c+1)))) D.d=some (.lst [.int a,.int b,.int (c+1)]):=ag;have kp:Kp (D.more 1) H (upd H D.d (HO.lst ([V.int a,V.int b,V.int c].set (Int.toNat 2) (V.int (c+1))))):=w6 (D:=D.more 1) (by omega) (by show c+1<=((D.n+1:Nat):Int);omega);generalize upd H D.d (HO.lst ([V.int a,V.int b,V.int c].set (Int.toNat 2) (V.int (c+1))))=H1 at *;lk;obtain⟨M0,M1⟩:=vR (x:=a % 9999999607) (y:=c+1) (Int.emod_nonneg _ (by decide)) (Int.emod_lt_of_pos _ (by decide)) (by omega) (by omega);generalize (a % 9999999607+991)*(29*(c+1)+59)+3517*(c+1)*(c+1)=M at *;refine i_rI (.inl ⟨by omega,by omega⟩) ?_;lk;have N0:=Int.emod_nonneg (M*M) (show (99999999647:Int)≠0 by decide);have N1:=Int.emod_lt_of_pos (M*M) (show (0:Int)<99999999647 by decide);generalize M*M % 99999999647=N at *
 first|refine i_rI (.inl ⟨by omega,by omega⟩) ?_|skip
 lk
 first|refine i_rI (show (0:Int)<m by omega) ?_|skip
 exact k _ _ (Int.emod_nonneg _ (by omega)) (Int.emod_lt_of_pos _ (by omega)) kp
end
theorem dG {T:List Nat}:∀(zs:List Str),(∀z∈zs,∃c∈T,z=⟨#[c]⟩)->((zs.map (·.cps.toList)).flatten).length=zs.length/\(∀c∈(zs.map (·.cps.toList)).flatten,c∈T)/\(zs.map (·.length)).sum=zs.length
 | [],_=>⟨rfl,λc h=>(QE h).elim,rfl⟩
 | z::zs,h=>by
  obtain⟨c,hc,rfl⟩:=h z (by simp);obtain⟨e1,e2,e3⟩:=dG zs λz hz=>h z (Qp _ hz);refine⟨?_,λd hd=>?_,?_⟩
  ·simp only[Qx,List.flatten_cons,Qi,e1,Xm];show (#[c]:Array Nat).toList.length+zs.length=_;simp;omega
  ·simp only[Qx,List.flatten_cons,Qz]at hd;rcases hd with hd|hd
   ·have:d=c:=by simpa using hd
    rw[this];exact hc
   exact e2 d hd
  simp only[Qx,List.sum_cons,Xm,e3];show (#[c]:Array Nat).size+zs.length=_;simp;omega
variable {zs ns ins outs ys:List Str}
theorem jG {T:List Nat} (h:∀z∈zs,∃c∈T,z=⟨#[c]⟩):(Txt.join Str.empty zs).cps.size=zs.length/\∀c∈(Txt.join Str.empty zs).cps.toList,c∈T:=by
 obtain⟨e1,e2,_⟩:=dG zs h;rw[<-Qm,rq];exact⟨e1,e2⟩
theorem ww {t:Str} {r:Int} (h0:0<=r) (h1:r<t.cps.size):∃c,atI t.cps.toList r=some c/\c∈t.cps.toList:=by
 have hr:r.toNat<t.cps.toList.length:=by rw[Qm];omega
 refine⟨t.cps.toList[r.toNat],?_,QW hr⟩;have e:r=((r.toNat:Nat):Int):=by omega
 have q:=aY (xs:=t.cps.toList) (j:=r.toNat) (v:=t.cps.toList[r.toNat]) (Qb hr);rw[<-e]at q;exact q
def Lt:Str := "abcdefghijklmnopqrstuvwxyz"
def Xn (t:Nat):Str:=Txt.mul ⟨#[Lt.cps.getD t 0]⟩ 8
theorem yB:∀i,i<26->∀j,j<26->Xn i=Xn j->i=j:=by decide +kernel
theorem yA:∀t,t<26->(Xn t).length=8:=by decide +kernel
theorem zw (c:Nat):MulOk ⟨#[c]⟩ 8:=by
 refine⟨by decide,λ_ _=>?_,λ_ _=>?_⟩
 ·show ¬((1:Int)>(2 ^ 63-1) / 8)
  decide
 rfl
theorem pigeon:∀(xs ys:List Str),xs.Nodup->(∀x∈xs,x∈ys)->xs.length<=ys.length
 | [],ys,_,_=>QT _
 | x::xs,ys,nd,h=>by
  rw[QS]at nd;have hx:=h x (by simp);have:=pigeon xs (ys.erase x) nd.2 λy hy=>(List.mem_erase_of_ne (λz:y=x=>nd.1 (by rw[<-z];exact hy))).mpr (h y (Qp _ hy));rw[List.length_erase_of_mem hx]at this;have:0<ys.length:=List.length_pos_of_mem hx;rw[Xm];omega
theorem ng:∀t,t<=26->((List.range t).map Xn).Nodup
 | 0,_=>by simp
 | t+1,h=>by
  rw[X5,QZ,XC];refine⟨ng t (by omega),by simp,λa ha b hb e=>?_⟩;obtain⟨i,hi,rfl⟩:=Ql.mp ha;rw[QR]at hi;have:b=Xn t:=by simpa using hb
  subst this;have:=yB i (by omega) t (by omega) e;omega
theorem zR {t:Nat} (ht:t<=26) (h:∀j,j<t->Xn j∈ns):t<=ns.length:=by
 have:=pigeon ((List.range t).map Xn) ns (ng t ht) λx hx=>by
  obtain⟨j,hj,rfl⟩:=Ql.mp hx;exact h j (QR.mp hj)
 simpa using this
structure NmOk (b:Nat) (z:Str):Prop where
 pos:1<=z.length
 lt:z.length<b
theorem wv (h:ns≠[]):∃n∈ns,atI (ns.map V.str) (-1)=some (.str n):=by
 have hl:0<ns.length:=List.length_pos_iff.mpr h;refine⟨ns[ns.length-1],QW _,?_⟩
 have e:ixN (ns.map V.str).length (-1)=some (ns.length-1):=by
  unfold ixN;rw[Qd,Qn (by decide),Qs (by omega)];congr 1;omega
 unfold atI;rw[e];show (ns.map V.str)[ns.length-1]?=_;rw[Qq,Qb (by omega)];rfl
theorem wu {ws:List Str} {r:Int} (h0:0<=r) (h1:r<ws.length):∃n∈ws,atI (ws.map V.str) r=some (.str n):=by
 have hr:r.toNat<ws.length:=by omega
 refine⟨ws[r.toNat],QW hr,?_⟩;have e:r=((r.toNat:Nat):Int):=by omega
 have q:=aY (xs:=ws.map V.str) (j:=r.toNat) (v:=.str ws[r.toNat]) (by rw[Qq,Qb hr];rfl);rw[<-e]at q;exact q
theorem fR {nm:Str}:∀{ns:List Str},inV (.str nm) (ns.map V.str)=true↔nm∈ns
 | []=>by simp[inV]
 | x::ns=>by
  have ih:=fR (nm:=nm) (ns:=ns);unfold inV at ih ⊢;rw[Qx,List.any_cons,Bool.or_eq_true,ih,Qj]
  have:eqV (.str x) (.str nm)=true↔nm=x:=by
   show decide (x=nm)=true↔_;rw[X6];exact⟨λh=>h.symm,λh=>h.symm⟩
  rw[this]
theorem jL (ns:List Str):(ns.map V.str).all cr=true:=by
 rw[QX];intro x hx;obtain⟨y,_,rfl⟩:=Ql.mp hx;rfl
theorem lap (a b:Str):(a++b).length=a.length+b.length:=by show (a.cps++b.cps).size=_;rw[Array.size_append];rfl
structure NmL (z:Str):Prop where
 pos:1<=z.length
 l8:z.length<=8
 lw:∀c∈z.cps.toList,97<=c/\c<=122
theorem oj (h:c∈Lt.cps.toList):97<=c/\c<=122:=(by decide +kernel:∀c∈Lt.cps.toList,97<=c/\c<=122) c h
theorem mE (z:Str):z.length=z.cps.toList.length:=(Qm ..).symm
theorem iS (a b:Str):(a++b).cps.toList=a.cps.toList++b.cps.toList:=by show (a.cps++b.cps).toList=_;simp
theorem tW {r:Int} (h7:z.length=7) (lw:∀c∈z.cps.toList,97<=c/\c<=122) (h0:0<=r) (h1:r<8) (hc:c∈Lt.cps.toList):NmL (Txt.slice z none (some r)++⟨#[c]⟩):=by
 obtain⟨j,rfl⟩:∃j:Nat,r=(j:Int):=⟨r.toNat,by omega⟩;have hs:z.cps.size=7:=h7;have e:=fF (z:=z) (j:=j) (by omega);have el:(Txt.slice z none (some (j:Int))++⟨#[c]⟩).cps.toList=z.cps.toList.take j++[c]:=by rw[iS,e]
 have ll:(Txt.slice z none (some (j:Int))++⟨#[c]⟩).length=j+1:=by
  rw[mE,el,Qi,QN,Qm];show min j z.cps.size+1=_;omega
 refine⟨by omega,by omega,λd hd=>?_⟩;rw[el]at hd;rcases Qz.mp hd with h|h
 ·exact lw d (List.mem_of_mem_take h)
 rw[Qv.mp h];exact oj hc
theorem tX (h:∀z∈zs,∃c∈Lt.cps.toList,z=⟨#[c]⟩) (h1:1<=zs.length) (h8:zs.length<=8):NmL (Txt.join Str.empty zs):=by
 obtain⟨js,jl⟩:=jG h;have js':(Txt.join Str.empty zs).length=zs.length:=js;exact⟨by omega,by omega,λc hc=>oj (jl c hc)⟩
theorem vO {r:Int} (g:NmL z) (h0:0<=r) (h1:r<(z.length:Int)) (hc:c∈Lt.cps.toList):NmL ((Txt.slice z none (some r)++⟨#[c]⟩)++Txt.slice z (some (r+1)) none):=by
 obtain⟨j,rfl⟩:∃j:Nat,r=(j:Int):=⟨r.toNat,by omega⟩;have zl:z.length=z.cps.size:=rfl;have e1:=fF (z:=z) (j:=j) (by omega);have e2:=ff (z:=z) (a:=j+1) (by omega);rw[show (((j+1:Nat)):Int)=(j:Int)+1 by omega]at e2;have el:((Txt.slice z none (some (j:Int))++⟨#[c]⟩)++Txt.slice z (some ((j:Int)+1)) none).cps.toList=(z.cps.toList.take j++[c])++z.cps.toList.drop (j+1):=by rw[iS,iS,e1,e2]
 have ll:((Txt.slice z none (some (j:Int))++⟨#[c]⟩)++Txt.slice z (some ((j:Int)+1)) none).length=z.length:=by
  rw[mE,el,Qi,Qi,QN,XB,Qm];show min j z.cps.size+1+(z.cps.size-(j+1))=z.cps.size;omega
 refine⟨by rw[ll];exact g.pos,by rw[ll];exact g.l8,λd hd=>?_⟩;rw[el]at hd;rcases Qz.mp hd with h|h
 ·rcases Qz.mp h with h|h
  ·exact g.lw d (List.mem_of_mem_take h)
  rw[Qv.mp h];exact oj hc
 exact g.lw d (List.mem_of_mem_drop h)
theorem zt:∀t,t<26->NmL (Xn t):=λt ht=>by
 have:=yA t ht;exact⟨by omega,by omega,(by decide +kernel:∀t,t<26->∀c∈(Xn t).cps.toList,97<=c/\c<=122) t ht⟩
def gP:Sp:=λvs H Q _=>∃(D:Dk) (m:Nat),vs=[.ref D.d,.int (m:Int)]/\D.At H/\D.n<50000/\1<=m/\m<=11 /\
 ∀l (nm:List Str) H',Kp (D.more 200) H H'->H l=none->nm.length=m->nm.Nodup->(∀n∈nm,NmL n)->H' l=some (.lst (nm.map V.str))->Q (.ref l) H'
variable {D D':Dk}
theorem Kp.up {c':Nat} (a:Kp (D.more c) H H1) (l:c<=c'):Kp (D.more c') H H1:=a.le (Nat.add_le_add_left l _)
theorem Kp.one (a:Kp (D.more c) H H1) (b:Kp ((D.more c).more 1) H1 H2):Kp (D.more (c+1)) H H2:=(a.trans b).le (Nat.le_of_eq (Nat.add_assoc _ _ _))
theorem bi {c:Nat} {m:Int} {E:XK} (kp:Kp (D.more c) H0 H) (dn:D.n+c<100000) (h1:1<=m) (h2:m<=100000)
  (q:∀(r:Int) H',0<=r->r<m->(∀b o,H b=some o->¬D.own b->H' b=some o)->Kp (D.more (c+1)) H0 H'->Q (.int r) H'):fc [.ref D.d,.int m] H Q E :=
 ⟨D.more c,m,rfl,kp.dk,dn,h1,h2,λr H' r0 r1 k=>q r H' r0 r1 k.old (kp.one k)⟩
theorem oP {r:Int} (h0:0<=r) (h1:r<26):∃c∈Lt.cps.toList,atI Lt.cps.toList r=some c:=by
 have z26:((Lt.cps.size:Nat):Int)=26:=by decide +kernel
 obtain⟨c,e,hc⟩:=ww (t:=Lt) (r:=r) h0 (by rw[z26];exact h1);exact⟨c,hc,e⟩
def NJp (D:Dk) (m:Nat) (l:Addr) (stem:Str) (H:Hp) (i:Nat) (ns:List Str) (c:Nat):St->Hp->Prop:=λσ H'=>∃(way:Int) (nm:Str) (x8 x9:Option V),σ=[some (.ref D.d),some (.int (m:Int)),some (.str Lt),some (.str stem),some (.ref l),some (.int (0+i)),some (.str nm),some (.int way),x8,x9]/\NmL nm/\H' l=some (.lst (ns.map V.str))/\Kp (D.more c) H H'
local macro_rules|`(tactic|ctx_has $a $b $c $d $e $f $g)=>`(tactic|(generalize hE:upd $a $b _=$c;obtain⟨$d,$e⟩:=$f $g hE;clear hE))
section
theorem ki:FnScope ["pool", "many", "letters", "stem", "found", "k", "name", "way", "at", "turn"] ["pool", "many"] (aw (top 26)):=by fin2
theorem qU {f:Addr} {fd:FuncData} (Fu:Fun K "_law_names" "_law_names" (top 26) f fd) (T:Txt K mg TT) (f_law_take:Fn P w K mg base "_law_take" ["pool", "many"] 1 fc):FnOk P w K mg base CX0 2 f fd ["pool", "many"] gP:=by
 have S:=ki;refine Fu.ok S (by room) (λcdv A outer s H vs Q E hr h=>?_);obtain⟨D,m,rfl,DA,dn,m1,m11,k⟩:=h;refine'⟨?_,?bb,?_⟩
 case bb =>
  walk_at "b";exact aE 2 S.nd aI;exact aE 3 S.nd (ao aD (a_ (aa aI (aa aI (aa aI (aa aI ac ay) ay) ay) ay)) (aH f_law_take hr (aa (pv 0) (aa af ac ay) ae)));exact aE 4 S.nd (a_ ac);walk_at "f";exact(cD (by rfl) T.n_range (aa (pv 1) ac ae));exact(bD 5 S.nd);walk_at "p";exact aE 6 S.nd (aO b9 (cx gS (pv 3) cR (cQ (aH f_law_take hr (aa (pv 0) (aa af ac ay) ae)))) (ao dJ (pv 2) (aH f_law_take hr (aa (pv 0) (aa af ac ay) ae))));exact aE 7 S.nd (aH f_law_take hr (aa (pv 0) (aa af ac ay) ae));exact(aB dP (pv 7) af (aJ _));exact aE 6 S.nd (bE PySem.F.plainAttrs_str PySem.F.slot_str_join PySem.F.type_str_join vQ aI (aa (ju "turn" [("letters", 2),("pool", 0)] (cD (by rfl) T.n_range (aa (aO bX af (aH f_law_take hr (aa (pv 0) (aa af ac ay) ae))) ac)) (λ_ _ _ _=>(ao dJ (pv 1) (aH f_law_take hr (aa (pv 2) (aa af ac ay) ae))))) ac));exact(PW.pt (hU (aB dP (pv 7) af (aJ _)) (kr (aB (ig hr.units) (pv 4) (a_ ac) (aJ _)))));exact aE 8 S.nd (aH f_law_take hr (aa (pv 0) (aa (aF kX (by rfl) T.n_len QV (aa (ao aD (pv 4) (tz nv af)) ac)) ac aM) ae));exact aE 6 S.nd (aO b9 (aO b9 (cx gS (ao aD (pv 4) (tz nv af)) cR (cQ (pv 8))) (ao dJ (pv 2) (aH f_law_take hr (aa (pv 0) (aa af ac ay) ae)))) (cx gS (ao aD (pv 4) (tz nv af)) (cQ (aO bX (pv 8) af)) cR));exact aE 9 S.nd af;refine' fI PassesOwn.never ?_ ?_;rotate_left 2;exact(aB ga (pv 6) (pv 4) rfl);walk_at "p";exact aE 6 S.nd (aO nP (ao dJ (pv 2) (pv 9)) af);exact aE 9 S.nd (aO bX (pv 9) af);exact(bM (bE QB Q4 Q5 bn (pv 4) (aa (pv 6) ac ae)));exact(aW (pv 4))
 x_go;lk;refine⟨by decide +kernel,λp hp=>?_⟩;ctx_has H p H1 S1 q1 aj hp;have q1':H1 p=some (.lst ((["abcdefg", "placeof", "zyxwvut", "kjqrshn"]:List Str).map V.str)):=q1;have kp1:Kp (D.more 0) H H1:=Kp.of DA S1;lk;refine bi kp1 (by omega) (by decide) (by decide) λr H2 r0 r1 o2 kp2=>?_;have np:¬D.own p:=aC DA hp;have q2:=o2 _ _ q1' np;obtain⟨stem,hst,est⟩:=wu (ws:=["abcdefg", "placeof", "zyxwvut", "kjqrshn"]) (r:=r) r0 r1;have hstl:stem.length=7:=(by decide +kernel:∀z∈(["abcdefg", "placeof", "zyxwvut", "kjqrshn"]:List Str),z.length=7) stem hst;have hstw:=(by decide +kernel:∀z∈(["abcdefg", "placeof", "zyxwvut", "kjqrshn"]:List Str),∀c∈z.cps.toList,97<=c/\c<=122) stem hst;refine bj (SqL.of q2) est ?_;clear q2 q1 q1' S1 kp1;lk;refine⟨by decide,λl hl=>?_⟩;have nl:¬D.own l:=aC (D:=D.more 1) kp2.dk hl;have HL:H l=none:=kp2.free hl;ctx_has H2 l H3 S3 q3 aj hl;have q3':H3 l=some (.lst (([]:List Str).map V.str)):=q3;have kp3:Kp (D.more 1) H H3:=kp2.trans (Kp.of kp2.dk S3);clear q3 S3 hl;lk;refine⟨by omega,by omega,?_⟩;rw[Q2];let I5:IvF:=λi σ H'=>∃x5 x6 x7 x8 x9,∃ns:List Str,σ=[some (.ref D.d),some (.int (m:Int)),some (.str Lt),some (.str stem),some (.ref l),x5,x6,x7,x8,x9]/\i<=11/\ns.length=i/\ns.Nodup/\(∀n∈ns,NmL n)/\H' l=some (.lst (ns.map V.str))/\Kp (D.more (1+14*i)) H H'
 refine cU (n:=m) I5
  ⟨_,_,_,_,_,[],rfl,QT _,rfl,List.nodup_nil,(λn h=>nomatch h),q3',kp3⟩ (λi σ H' hi pv=>?_) (λσ H' pv=>?_)
 ·obtain⟨x5,x6,x7,x8,x9,ns,rfl,_,hn,nd,good,hl',kp⟩:=pv;have l1:∀c,(⟨#[c]⟩:Str).length=1:=λ_=>rfl;refine aA ?_;lk;refine bi kp (by omega) (by decide) (by decide) λr2 Ha r20 r21 oa kpa=>?_;lk;have sl:=Txt.slice_le stem none (some r2);refine mM (by omega) ?_;lk;refine bi kpa (by omega) (by decide) (by decide) λr3 Hb r30 r31 ob kpb=>?_;obtain⟨c,hc,ec⟩:=oP r30 r31;refine fS (by decide +kernel) ec ?_;refine⟨_,_,rfl,rfl,by rw[l1];omega,?_⟩;have hnm:NmL (Txt.slice stem none (some r2)++⟨#[c]⟩):=tW hstl hstw r20 r21 hc;generalize Txt.slice stem none (some r2)++⟨#[c]⟩=nm at *;have hlb:=ob _ _ (oa _ _ hl' nl) nl;clear oa ob kpa sl r20 r21;refine aA ?_;lk;refine bi kpb (by omega) (by decide) (by decide) λway Hc w0 w1 oc kpc=>?_;have hlc:=oc _ _ hlb nl;clear oc kpb hlb;refine aA ?_;with_reducible refine dj (NJp D m l stem H i ns (1+14*i+12)) (λR hR=>?_) (λσ6 H6 j6=>?_)
  ·lk;refine mK (λ_=>?_) (λ_=>hR _ _ ⟨way,nm,x8,x9,rfl,hnm,hlc,kpc.up (by omega)⟩);lk;refine⟨rfl,?_⟩;lk;refine b_ ?_;lk;refine bi kpc (by omega) (by decide) (by decide) λr4 Hd r40 r41 od kpd=>?_;have hld:=od _ _ hlc nl;lk;refine⟨by omega,by omega,λL hL=>?_⟩;have nL:¬D.own L:=aC (D:=D.more _) kpd.dk hL;have HLn:H L=none:=kpd.free hL;obtain⟨n8,e8,a8,b8⟩:∃n8:Nat,(1+r4).toNat=n8/\1<=n8/\n8<=8:=⟨_,rfl,by omega,by omega⟩;rw[e8];have nlL:l≠L:=aq hld hL;let I6:IvC:=λn H' ys=>Kp (D.more (1+14*i+4+n)) H H'/\H' L=some (.lst ys)/\H' l=some (.lst (ns.map V.str))/\∃zs:List Str,ys=zs.map V.str/\zs.length=n/\∀z∈zs,∃c∈Lt.cps.toList,z=⟨#[c]⟩
   refine ft (n:=n8) I6
    ⟨(Kp.new kpd hL).up (by omega),ag,by rw[ah nlL];exact hld,[],rfl,rfl,λz h=>nomatch h⟩ (λn H' ys pv=>pv.2.1) (λn H' ys hn8 pv=>?_) (λH' ys pv=>?_)
   ·obtain⟨kpx,hLx,hlx,zs,rfl,hz,hzs⟩:=pv;refine aA ⟨⟨rfl,rfl,trivial⟩,i_yes (iteT ?_)⟩;show tOp _ _ _ [some (.int (0+n)),some (.str Lt),some (.ref D.d)] _ _;lk;refine bi kpx (by omega) (by decide) (by decide) λr5 Hy r50 r51 oy kpy=>?_;obtain⟨c5,hc5,ec5⟩:=oP r50 r51;refine fS (by decide +kernel) ec5 ?_;refine eX.mk (oy _ _ hLx nL) hn8 (by rw[Qd];omega) ⟨Kp.fresh (DA.le (QM _ _)) HLn (kpy.up (by omega)),ag,by rw[ah nlL];exact oy _ _ hlx nl,zs++[⟨#[c5]⟩],by simp,by simp[hz],λz hz'=>?_⟩;rcases Qz.mp hz' with h|h
    ·exact hzs z h
    rw[Qv]at h;exact⟨c5,hc5,h⟩
   obtain⟨kpx,hLx,hlx,zs,rfl,hz,hzs⟩:=pv;obtain⟨_,_,f3⟩:=dG zs hzs;obtain⟨js,_⟩:=jG hzs;have e0:("" : Str)=Str.empty:=by decide +kernel
   have e00:("" : Str).length=0:=by decide +kernel
   refine bo ⟨"", L,zs,rfl,rfl,SqL.of hLx,by rw[f3,e00];omega,?_⟩;rw[e0];have js':(Txt.join Str.empty zs).length=zs.length:=js;exact aA (hR _ _ ⟨way,_,x8,x9,rfl,tX hzs (by omega) (by omega),hlx,kpx.up (by omega)⟩)
  clear hnm hlc kpc;with_reducible refine dj (NJp D m l stem H i ns (1+14*i+14)) (λR hR=>?_) (λσ7 H7 j7=>?_)
  ·obtain⟨way,nm,x8,x9,rfl,hnm,hl6,kp6⟩:=j6;have out:∀H',ak H6 H'->R [some (.ref D.d),some (.int (m:Int)),some (.str Lt),some (.str stem),some (.ref l),some (.int (0+i)),some (.str nm),some (.int way),x8,x9] H':=λH' kq=>hR _ _ ⟨way,nm,x8,x9,rfl,hnm,kq _ _ hl6,(kp6.trans (Kp.of kp6.dk kq)).up (by omega)⟩;lk;refine mK (λ_=>?_) (λ_=>?_)
   ·lk;refine⟨by decide,λp hp=>?_⟩;have S7:=ar (o:=.lst []) hp;have hl7:=S7 _ _ hl6;refine⟨l,p,_,[],λ_=>true,rfl,rfl,SqL.of hl7,SqL.of ag,(λj x y _ h=>by simp at h),⟨_,rfl,?_⟩⟩;refine mK (λhne=>?_) (λ_=>out _ S7);have nne:ns≠[]:=λz=>by subst z;simp at hne
    obtain⟨la,hla,ela⟩:=wv nne;have gla:=good la hla;have gp:=gla.pos;have gl:=gla.l8;have kp8:Kp (D.more (1+14*i+12)) H (upd H6 p (.lst [])):=kp6.trans (Kp.of kp6.dk S7);generalize upd H6 p (.lst [])=H8 at *;lk;refine bj (SqL.of hl7) ela ?_;lk;refine⟨_,rfl,by omega,?_⟩;lk;refine bi kp8 (by omega) (by omega) (by omega) λat1 H9 t0 t1 o9 kp9=>?_;have hl9:=o9 _ _ hl7 nl;lk;refine bj (SqL.of hl9) ela ?_;lk;refine mM (by omega) ?_;lk;refine bi kp9 (by omega) (by decide) (by decide) λr6 Hk r60 r61 ok kpk=>?_;obtain⟨c6,hc6,ec6⟩:=oP r60 r61;have hlk:=ok _ _ hl9 nl;refine fS (by decide +kernel) ec6 ?_;have sl1:=Txt.slice_le la none (some at1);have sl2:=Txt.slice_le la (some (at1+1)) none;refine⟨_,_,rfl,rfl,by rw[l1];omega,?_⟩;lk;refine bj (SqL.of hlk) ela ?_;lk;refine mM (by omega) ?_;refine⟨_,_,rfl,rfl,by rw[lap,l1];omega,?_⟩;exact aA (hR _ _ ⟨way,_,_,x9,rfl,vO gla t0 t1 hc6,hlk,kpk.up (by omega)⟩)
   first|exact out _ (ak.refl _)|exact iteF (out _ (ak.refl _))
  obtain⟨way,nm,x8,x9,e,hnm,hl6,kp6⟩:=j7;subst e;with_reducible refine s_seq (s_asg (i_c (aA ?_)))
  let I7:IvJ:=λσ H'=>∃(t:Int) (nm:Str),σ=[some (.ref D.d),some (.int (m:Int)),some (.str Lt),some (.str stem),some (.ref l),some (.int (0+i)),some (.str nm),some (.int way),x8,some (.int t)]/\NmL nm/\nm∉ns/\H'=H7;with_reducible refine dj I7 (λR hR=>?_) (λσ9 H9 j9=>?_)
  ·let I8:IvF:=λn σ H'=>∃(t:Nat) (nm:Str),n=26-t/\t<=11/\σ=[some (.ref D.d),some (.int (m:Int)),some (.str Lt),some (.str stem),some (.ref l),some (.int (0+i)),some (.str nm),some (.int way),x8,some (.int t)]/\NmL nm/\H'=H7/\(∀j,j+1<t->Xn j∈ns)/\(1<=t->nm=Xn (t-1));refine⟨I8,⟨26,0,nm,rfl,by omega,rfl,hnm,rfl,(λj h=>by omega),(λh=>by omega)⟩,?_⟩;rintro n σ H' ⟨t,nm,rfl,t11,rfl,hnm,rfl,q1,q2⟩;have z26:((Lt.cps.size:Nat):Int)=26:=by decide +kernel
   lk;refine Af (SqL.of hl6) rfl (jL ns) ?_;refine⟨_,rfl,?_⟩;refine mK (λhin=>?_) (λhin=>?_)
   ·have hmem:=fR.mp hin
    have hall:∀j,j<t->Xn j∈ns:=λj hj=>by
     by_cases z:j+1<t
     ·exact q1 j z
     have:j=t-1:=by omega
     rw[this,<-q2 (by omega)];exact hmem
    have ht:=zR (by omega) hall;refine⟨_,λσ' H' w=>⟨26-(t+1),by omega,w⟩,?_⟩;lk
    have et:atI Lt.cps.toList ((t:Nat):Int)=some (Lt.cps.getD t 0):=by
     refine aY ?_;have:t<Lt.cps.size:=by omega
     simp[Array.getD,this]
    refine fS (by decide +kernel) et ?_;lk;refine⟨_,_,rfl,rfl,zw _,?_⟩;lk;refine⟨t+1,Xn t,rfl,by omega,rfl,?_,rfl,(λj hj=>hall j (by omega)),(λ_=>rfl)⟩;exact zt t (by omega)
   exact hR _ _ ⟨t,nm,rfl,hnm,λz=>hin (fR.mpr z),rfl⟩
  obtain⟨t,nm,e,hnm,hnot,e9⟩:=j9;subst e e9;lk;refine dQ hl6 (by rw[Qd];omega) ?_;refine⟨_,_,_,_,_,ns++[nm],rfl,by omega,by simp[hn],?_,λn hn'=>?_,by rw[ag];simp,Kp.fresh (DA.le (QM _ _)) HL (kp6.up (by omega))⟩
  ·rw[XC]
   exact⟨nd,by simp,λa ha b hb e=>hnot (by
    have hb':b=nm:=by simpa using hb
    rw[<-hb',<-e];exact ha)⟩
  rcases Qz.mp hn' with h|h
  ·have g:=good n h;exact g
  have:n=nm:=by simpa using h
  rw[this];exact hnm
 obtain⟨x5,x6,x7,x8,x9,ns,rfl,_,hn,nd,good,hl',kp⟩:=pv;refine s_ret (te:=e_ 4) (D:={ nx:=λx H'=>Q V.non H',rt:=Q }) (aP rfl ?_);exact k l ns H' (kp.up (by omega)) HL hn nd good hl'
end
def j4 (K:PySem.W.Frag):Sp:=λvs H Q _=>∃(D:Dk) (a:Addr) (xs:List V),vs=[.ref D.d,.ref a]/\D.At H/\SqL K H a xs/\D.n<50000/\xs.length<=100 /\
 ∀l (ys:List V) H',Kp (D.more 100) H H'->H l=none->ys.Perm xs->H' l=some (.lst ys)->Q (.ref l) H'
theorem pick_perm:∀{ls:List V} {k:Nat} {y:V},ls[k]?=some y->(y::ls.eraseIdx k).Perm ls
 | [],_,_,h=>by simp at h
 | x::r,0,y,h=>by simp at h;subst h;exact .refl _
 | x::r,k+1,y,h=>by
  have:=pick_perm (ls:=r) (k:=k) (y:=y) (by simpa using h);rw[List.eraseIdx_cons_succ];exact(List.Perm.swap _ _ _).trans (this.cons _)
section
theorem kh:FnScope ["pool", "things", "left", "found"] ["pool", "things"] (aw (top 27)):=by fin2
theorem tP {f:Addr} {fd:FuncData} (Fu:Fun K "_law_order" "_law_order" (top 27) f fd) (T:Txt K mg TT) (f_law_take:Fn P w K mg base "_law_take" ["pool", "many"] 1 fc):FnOk P w K mg base CX0 2 f fd ["pool", "things"] (j4 K):=by
 have S:=kh;refine Fu.ok S (by room) (λcdv A outer s H vs Q E hr h=>?_);obtain⟨D,a,xs,rfl,DA,hx,dn,x100,k⟩:=h;refine'⟨?_,?bb,?_⟩
 case bb =>
  walk_at "b";exact aE 2 S.nd (bw dL (by rfl) T.n_list PyProof.Rows.boot_list (aa (pv 1) ac ae));exact aE 3 S.nd (a_ ac);refine' fI PassesOwn.never ?_ ?_;rotate_left 2;exact(aB (ig hr.units) (pv 2) (a_ ac) (aJ _));walk_at "p";exact(bM (bE QB Q4 Q5 bn (pv 3) (aa (bE QB PySem.F.slot_list_pop PySem.F.type_list_pop tZ (pv 2) (aa (aH f_law_take hr (aa (pv 0) (aa (aF az (by rfl) T.n_len QV (aa (pv 2) ac ae)) ac aM) ae)) ac aM)) ac aM)));exact(aW (pv 3))
 x_go;lk;refine⟨_,_,rfl,.inl hx,λl hl=>?_⟩;have nl:¬D.own l:=aC DA hl;ctx_has H l H1 S1 q1 aj hl;have kp1:Kp (D.more 0) H H1:=Kp.of DA S1;lk;refine⟨by decide,λp hp=>?_⟩;have np:¬D.own p:=aC (D:=D.more _) kp1.dk hp;have nlp:l≠p:=aq q1 hp;have HP:H p=none:=kp1.free hp;ctx_has H1 p H2 S2 q2 aj hp;have kp2:Kp (D.more 0) H H2:=kp1.trans (Kp.of kp1.dk S2);have q1':=S2 _ _ q1;clear kp1 S1 S2 hp q1;lk;let I9:IvF:=λn σ H'=>∃(ls fs:List V),n=ls.length/\fs.length+ls.length=xs.length/\σ=[some (.ref D.d),some (.ref a),some (.ref l),some (.ref p)]/\(fs++ls).Perm xs/\H' l=some (.lst ls)/\H' p=some (.lst fs)/\Kp (D.more fs.length) H H';refine⟨I9,⟨_,xs,[],rfl,by simp,rfl,.refl _,q1',q2,kp2⟩,?_⟩;rintro n σ H' ⟨ls,fs,rfl,hlen,rfl,pm,hl',hp',kp⟩;lk;refine⟨by decide,λe he=>?_⟩;have Se:=ar (o:=.lst []) he;have hle:=Se _ _ hl';have hpe:=Se _ _ hp';have kpe:Kp (D.more fs.length) H (upd H' e (.lst [])):=kp.trans (Kp.of kp.dk Se);refine⟨l,e,_,[],λ_=>true,rfl,rfl,SqL.of hle,SqL.of ag,(λj x y _ h=>by simp at h),⟨_,rfl,?_⟩⟩;generalize upd H' e (.lst [])=H3 at *;refine mK (λhne=>?_) (λhno=>?_)
 ·have nne:ls≠[]:=λz=>by subst z;simp at hne
  have lpos:0<ls.length:=List.length_pos_iff.mpr nne;refine⟨_,λσ' H' w=>⟨ls.length-1,by omega,w⟩,?_⟩;lk;refine bi kpe (by omega) (by omega) (by omega) λr H4 r0 r1 o4 kp4=>?_;have hl4:=o4 _ _ hle nl;have hp4:=o4 _ _ hpe np;have hj:r.toNat<ls.length:=by omega
  have ez:ls[r.toNat]?=some ls[r.toNat]:=Qb hj;refine bo ?_;refine⟨l,ls,r,r.toNat,_,rfl,rfl,hl4,by omega,by omega,?_,ez,?_⟩
  ·have:ixN ls.length r=some r.toNat:=by unfold ixN;rw[Qs r0,Qs r1]
   exact(kP this).1
  refine bo ?_;have pz:=pick_perm ez;generalize ls[r.toNat]=z at *;have lz:(ls.eraseIdx r.toNat).length+1=ls.length:=by rw[List.length_eraseIdx];rw[Qs hj];omega
  refine dQ (xs:=fs) (by rw[ah nlp.symm];exact hp4) (by omega) ?_;refine⟨ls.eraseIdx r.toNat,fs++[z],by omega,by rw[Qi];show fs.length+1+_=_;omega,rfl,?_,by rw[ah nlp,ag],ag,?_⟩
  ·rw[XN];exact(List.Perm.append_left fs pz).trans pm
  have:=Kp.fresh (o:=.lst (fs++[z])) (DA.le (QM _ _)) HP (Kp.fresh (o:=.lst (ls.eraseIdx r.toNat)) (DA.le (QM _ _)) hl kp4);rw[Qi];exact this
 have e0:ls=[]:=by
  cases ls with
  | nil=>rfl
  | cons x r=>exact absurd (by simp) hno
 subst e0;lk;exact k p fs H3 (kpe.up (by simp at hlen;omega)) HP (by simpa using pm) hpe
end
theorem TuA.inj {y:Tu} (h1:TuA H v x) (h2:TuA H v y):x=y:=by
 obtain⟨b,e,q⟩:=h1;subst e;obtain⟨b',e,q'⟩:=h2;cases e;rw[q]at q';have:=HO.tup.inj (QC q');simp only[X0,V.str.injEq]at this;exact Prod.ext this.1 this.2.1
open Classical in
theorem oz {K:PySem.W.Frag} {t:Tu} (h1:TuA H u x) (h2:TuA H v t):EqD K H (n+2) u v (decide (TuA H u t)):=by
 have e:decide (TuA H u t)=decide (tk2 x=tk2 t):=Xs.mpr ⟨λh=>by rw[h1.inj h],λh=>by rw[<-gB h];exact h1⟩;rw[e];obtain⟨a,e,_⟩:=id h1;subst e;obtain⟨b,e,_⟩:=id h2;subst e;exact ym h1.tk h2.tk rfl
open Classical in
theorem cq {K:PySem.W.Frag} {t:Tu} (h:H l=some (.lst vs)) (p:Paired (TuA H) vs ts) (hu:TuA H u t) (m:t∈ts) (q:Q (.int (ts.idxOf t:Nat)) H):pG K (.ref l) [u] H Q:=by
 have hi:=QA m;have et:ts[ts.idxOf t]?=some t:=by rw[Qb hi];exact congrArg some (XS hi)
 obtain⟨z,ez,hz⟩:=aX p et;refine⟨l,vs,u,λv=>decide (TuA H v t),ts.idxOf t,z,rfl,rfl,SqL.of h,λv hv=>?_,ez,Qu hz,λj v hj ev=>?_,q⟩
 ·obtain⟨i,hi,rfl⟩:=Xe hv;obtain⟨x,_,hx⟩:=paired_get p (Qb hi);exact oz hx hu
 obtain⟨x,ex,hx⟩:=paired_get p ev;refine Qw λz=>?_;cases hx.inj z;have h1:=List.not_of_lt_findIdx (xs:=ts) (p:=(·==t)) (i:=j) hj;obtain⟨h2,e2⟩:=Qc.mp ex;rw[e2]at h1;simp at h1
abbrev Pr:=Tu × Tu
def PrA (H:Hp) (v:V) (p:Pr):Prop:=∃b v1 v2,v=.ref b/\H b=some (.tup [v1,v2])/\TuA H v1 p.1/\TuA H v2 p.2
theorem PrA.kt {p:Pr} (k:a9 H H') (h:PrA H v p):PrA H' v p:=let ⟨b,v1,v2,e,q,h1,h2⟩:=h;⟨b,v1,v2,e,k _ _ q,h1.kt k,h2.kt k⟩
open Classical in
theorem yh {K:PySem.W.Frag} {p:Pr} {t:Tu} (hp:PrA H v p) (hu:TuA H u t) (q:Q (.bl (decide (p.1=t) || decide (p.2=t))) H):xG K false u v H Q:=by
 obtain⟨b,v1,v2,rfl,hb,h1,h2⟩:=hp;refine⟨b,_,λv=>decide (TuA H v t),rfl,.inr (SqT.of hb),λv hv=>?_,?_⟩
 ·rcases Qj.mp hv with rfl|hv
  ·exact oz h1 hu
  cases Qv.mp hv;exact oz h2 hu
 have e1:decide (TuA H v1 t)=decide (p.1=t):=Xs.mpr ⟨λh=>h1.inj h,λh=>h▸h1⟩;have e2:decide (TuA H v2 t)=decide (p.2=t):=Xs.mpr ⟨λh=>h2.inj h,λh=>h▸h2⟩;rw[List.any_cons,List.any_cons,List.any_nil,Bool.or_false,e1,e2];exact q
def ku (t:Tu):List Key:=[.inr t.1,.inr t.2]
def tkR (p:Pr):av:=[.inr (ku p.1),.inr (ku p.2)]
theorem kM {y:Tu} (h:ku x=ku y):x=y:=by
 unfold ku at h;simp only[X0,Sum.inr.injEq]at h;exact Prod.ext h.1 h.2.1
theorem j0 {x y:Pr} (h:tkR x=tkR y):x=y:=by
 unfold tkR at h;simp only[X0,Sum.inr.injEq]at h;exact Prod.ext (kM h.1) (kM h.2.1)
theorem PrA.tk {p:Pr} (h:PrA H (.ref b) p):bL H (tkR p) b:=by
 obtain⟨_,v1,v2,e,q,⟨c,e1,h1⟩,d,e2,h2⟩:=h;cases e;subst e1 e2;exact⟨_,q,.cons ⟨c,rfl,h1⟩ (.cons ⟨d,rfl,h2⟩ .nil)⟩
theorem PrA.of {p:Pr} (h:bL H (tkR p) b):PrA H (.ref b) p:=by
 obtain⟨vs,q,pr⟩:=h
 cases pr with
 | cons r1 pr=>cases pr with
  | cons r2 pr =>
   cases pr;obtain⟨c,e1,h1⟩:=r1;obtain⟨d,e2,h2⟩:=r2;subst e1 e2;exact⟨b,_,_,rfl,q,⟨c,rfl,h1⟩,d,rfl,h2⟩
structure PrOk (ws:List Str) (p:Pr):Prop where
 o:ca ws p.1
 t:ca ws p.2
 ne:p.1≠p.2
structure MkD (H:Hp) (a:Addr) (ws:List Str) (kvs:List (av × V)) (n:Nat):Prop where
 h:H a=some (.dT kvs)
 l:kvs.length<=n
 ok:∀kv∈kvs,∃p:Pr,kv.1=tkR p/\PrOk ws p/\∃m:Int,kv.2=.int m/\(m=0\/m=1)
 nd:(kvs.map (·.1)).Nodup
theorem t7 {k:av} {kv:av × V} (h:kv∈bq kvs k v):kv∈kvs\/kv=(k,v):=by
 unfold bq at h
 split at h
 ·obtain⟨x,hx,e⟩:=Ql.mp h;by_cases c:x.1=k
  ·rw[Qs c]at e;exact .inr (by rw[<-e,c])
  rw[Qn c]at e;exact .inl (e▸hx)
 rcases Qz.mp h with h|h
 ·exact .inl h
 exact .inr (Qv.mp h)
theorem du (kvs:List (av × V)) (k:av) (v:V):(k∈kvs.map (·.1)/\(bq kvs k v).map (·.1)=kvs.map (·.1))\/(k∉kvs.map (·.1)/\(bq kvs k v).map (·.1)=kvs.map (·.1)++[k]):=by
 cases e:aV kvs k with
 | none=>exact .inr ⟨dU e,by rw[dY v e,QZ];rfl⟩
 | some u =>
 refine .inl ⟨oW e,?_⟩;unfold bq;rw[cM,e];rw[Qs (show (some u).isSome=true from rfl),Xw];refine XJ λx _=>?_;show (if x.1=k then (x.1,v) else x).1=x.1
 split <;> rfl
theorem MkD.put {H':Hp} {ws:List Str} {p:Pr} {m:Int} (d:MkD H a ws kvs n) (ok:PrOk ws p) (hm:m=0\/m=1) (e:H' a=some (.dT (bq kvs (tkR p) (.int m)))):MkD H' a ws (bq kvs (tkR p) (.int m)) (n+1):=by
 refine⟨e,QQ (bQ _ _ _) (Nat.succ_le_succ d.l),λkv h=>?_,?_⟩
 ·rcases t7 h with h|rfl
  ·exact d.ok kv h
  exact⟨p,rfl,ok,m,rfl,hm⟩
 rcases du kvs (tkR p) (.int m) with⟨_,e⟩|⟨c,e⟩
 ·rw[e];exact d.nd
 rw[e];exact pT d.nd c
theorem MkD.set {ws:List Str} {p:Pr} {m:Int} (d:MkD H a ws kvs n) (hp:tkR p∈kvs.map (·.1)) (ok:PrOk ws p) (hm:m=0\/m=1) (e:H' a=some (.dT (bq kvs (tkR p) (.int m)))):MkD H' a ws (bq kvs (tkR p) (.int m)) n:=by
 have q:=d.put ok hm e;refine⟨q.h,?_,q.ok,q.nd⟩;rcases du kvs (tkR p) (.int m) with⟨_,e⟩|⟨c,_⟩
 ·have:=congrArg List.length e;rw[Qd,Qd]at this;rw[this];exact d.l
 exact absurd hp c
theorem MkD.same {H':Hp} {ws:List Str} (d:MkD H a ws kvs n) (e:∀o,H a=some o->H' a=some o):MkD H' a ws kvs n:=⟨e _ d.h,d.l,d.ok,d.nd⟩
theorem MkD.val {ws:List Str} {p:Pr} (d:MkD H a ws kvs n) (h:tkR p∈kvs.map (·.1)):PrOk ws p/\∃m:Int,aV kvs (tkR p)=some (.int m)/\(m=0\/m=1):=by
 cases e:aV kvs (tkR p) with
 | none=>exact absurd h (dU e)
 | some v =>
 unfold aV at e;obtain⟨kv,hf,rfl⟩:=Xu.mp e;have h1:=List.find?_some hf;obtain⟨p',e1,ok,m,e2,hm⟩:=d.ok kv (List.mem_of_find?_eq_some hf);have h1:kv.1=tkR p:=Xv h1;cases j0 (e1.symm.trans h1);exact⟨ok,m,by rw[e2],hm⟩
theorem cmK {K:PySem.W.Frag} {g:TG} {te:TE} {tt:L2.TT} {QD:Hp->Prop} {xs:List α} {I:V->α->Prop} (R:Hp->V->α->Prop) (DA:D.At H1) (hL:H1 L=none) (e:H1 a=some (.lst vs)) (na:¬D.own a) (pa:Paired I vs xs) (few:xs.length<=100000) (mono:∀H H' v x,a9 H H'->R H v x->R H' v x)
  (hs:∀i v x H,i<xs.length->I v x->x∈xs->Kp (D.more i) H1 H->∀(G:V->Hp->Prop) (N:Hp->Prop),(∀u H2,Kp (D.more (i+1)) H H2->R H2 u x->G u H2)->(∀H2,Kp (D.more (i+1)) H H2->N H2)->g v σ0 H λσ2 H2=>wk σ0 σ2/\tt σ2 H2 λb H3=>if b=true then te σ2 H3 G else N H3)
  (hd:∀H ys zs,Kp (D.more xs.length) H1 H->H L=some (.lst ys)->zs.Sublist xs->Paired (R H) ys zs->QD H) :
  ∃W:Nat->Nat->Hp->List V->Prop,(∃m,W 0 m (upd H1 L (.lst [])) [])/\∀i m H ys,W i m H ys->H L=some (.lst ys)/\(((Itl K a).stop i H/\QD H)\/((Itl K a).go i H/\∀x H',(Itl K a).yld i H x H'->g x σ0 H' λσ2 H2=>wk σ0 σ2/\tt σ2 H2 λb H3 =>
   if b=true then te σ2 H3 λv H4=>H4 L=some (.lst ys)/\ys.length<sizeLine/\∃m',m'<m/\W (i+1) m' (upd H4 L (.lst (ys++[v]))) (ys++[v]) else ∃m',m'<m/\W (i+1) m' H3 ys)):=by
 have l:=am pa;have nL:¬D.own L:=aC DA hL;refine⟨λi m H ys=>m=xs.length-i/\i<=xs.length/\Kp (D.more i) H1 H/\H L=some (.lst ys)/\∃zs,zs.Sublist (xs.take i)/\Paired (R H) ys zs,⟨_,rfl,QT _,Kp.of DA (ar hL),ag,[],List.nil_sublist _,.nil⟩,?_⟩;rintro i m H ys ⟨rfl,hi,kp,hy,zs,sb,p⟩;refine⟨hy,?_⟩;have ea:=kp.old _ _ e na;by_cases hl:i<xs.length
 ·refine .inr ⟨⟨vs,vs[i]'(by omega),SqL.of ea,Qb _⟩,λv H' y=>?_⟩;obtain⟨e',y⟩:=y;subst e';have ex:xs[i]?=some xs[i]:=Qb hl;have hm:xs.length-(i+1)<xs.length-i:=by omega
  obtain⟨v',ev,r⟩:=aX pa ex;cases ev.symm.trans (y vs (SqL.of ea));have st:xs.take i++[xs[i]]=xs.take (i+1):=by rw[XI,ex];rfl
  refine hs i v xs[i] _ hl r (Qh ex) kp _ _ (λu H2 k2 ru=>?_) (λH2 k2=>?_)
  ·have yl:ys.length<=xs.length:=by
    rw[am p];refine QQ sb.length_le ?_;rw[QN];omega
   have hy2:=k2.old _ _ hy nL;have kt:=bU (o:=.lst (ys++[u])) hy2;have kt2:=Kp.tups (kp.dk.le (Nat.add_le_add_left (Nat.le_succ _) _)) k2;refine⟨hy2,XO yl (XO few (by decide)),_,hm,rfl,hl,Kp.fresh (DA.le (QM _ _)) hL (kp.trans k2),ag,zs++[xs[i]],?_,?_⟩
   ·rw[<-st];exact sb.append (List.Sublist.refl _)
   exact aU (ad (λv x r=>mono _ _ v x kt (mono _ _ v x kt2 r)) p) (mono _ _ u _ kt ru)
  have kt2:=Kp.tups (kp.dk.le (Nat.add_le_add_left (Nat.le_succ _) _)) k2;exact⟨_,hm,rfl,hl,kp.trans k2,k2.old _ _ hy nL,zs,by rw[<-st];exact sb.trans (List.sublist_append_left _ _),ad (λv x r=>mono _ _ v x kt2 r) p⟩
 obtain rfl:i=xs.length:=by omega
 rw[Q8 (Qg _)]at sb;exact .inl ⟨⟨vs,SqL.of ea,by omega⟩,hd H ys zs kp hy sb p⟩
theorem kY {xs:List V} {i:Int} (h0:-(xs.length:Int)<=i) (h1:i<xs.length):∃v,atI xs i=some v/\v∈xs:=by
 unfold atI ixN;by_cases c:0<=i
 ·rw[Qs c,Qs h1];exact⟨xs[i.toNat]'(by omega),Qb _,QW _⟩
 rw[Qn c,Qs h0];exact⟨xs[(i+xs.length).toNat]'(by omega),Qb _,QW _⟩
theorem dq {F:α->β->Prop} {xs:List α} {ys:List β} (p:Paired F xs ys) {x:α} (h:x∈xs):∃y∈ys,F x y:=by
 obtain⟨i,hi,rfl⟩:=Xe h;obtain⟨y,e,r⟩:=paired_get p (Qb hi);exact⟨y,Qh e,r⟩
theorem rT (p:Paired (TuA H) vs ts):∀x∈vs,∃a,x=V.ref a:=λx hx=>by
 obtain⟨_,_,b,e,_⟩:=dq p hx;exact⟨b,e⟩
theorem d5:∀(ns:List Str),Paired (λv n=>v=V.str n) (ns.map V.str) ns
 | []=>.nil
 | _::ns=>.cons rfl (d5 ns)
theorem vv {t u:L2.TT} {R:Bool->Hp->Prop} (J:Hp->Prop) (hT:∀H',J H'->R true H') (hF:∀H',J H'->R false H') (h:∀(R':Bool->Hp->Prop),(∀b H',J H'->R' b H')->tOr t u σ H R'):tOr t u σ H R:=h R λb H' j=>by
 cases b
 ·exact hF H' j
 exact hT H' j
theorem dI {D:Addr} {o:HO} (h:H D=some (.dT kvs)):a9 H (upd H D o):=λb ys e=>by
 rw[ah (λz=>by rw[z,h]at e;cases e)];exact e
theorem bit (b:Bool):(if b=true then (1:Int) else 0)=0\/(if b=true then (1:Int) else 0)=1:=by cases b <;> simp
structure AI (D:Dk) (H H':Hp) (Lm Lq:Addr) (ws:List Str) (c n:Nat) (pv:List V) (ps:List Pr):Prop where
 kp:Kp (D.more c) H H'
 m:H' Lm=some (.dT [])
 q:H' Lq=some (.lst pv)
 pp:Paired (PrA H') pv ps
 ok:∀p∈ps,ca ws p.1/\ca ws p.2
 l:ps.length<=n
section
variable {D:Dk} {H H' H2:Hp} {Lm Lq:Addr} {ws:List Str} {c n:Nat} {pv:List V} {ps:List Pr}
theorem Kp.kt {k:Nat} (kp:Kp (D.more k) H H') (old:∀b o,H' b=some o->¬D.own b->H2 b=some o):a9 H' H2:=λb xs e=>old b _ e (io (D:=D.more k) kp.dk e (λ_ z=>nomatch z))
theorem AI.draw {c':Nat} (i:AI D H H' Lm Lq ws c n pv ps) (DA:D.At H) (hm:H Lm=none) (hq:H Lq=none) (old:∀b o,H' b=some o->¬D.own b->H2 b=some o) (k:Kp (D.more c') H H2):AI D H H2 Lm Lq ws c' n pv ps :=
 ⟨k,old _ _ i.m (aC DA hm),old _ _ i.q (aC DA hq),ad (λ_ _ h=>h.kt (i.kp.kt old)) i.pp,i.ok,i.l⟩
theorem AI.same (i:AI D H H' Lm Lq ws c n pv ps) (S:ak H' H2):AI D H H2 Lm Lq ws c n pv ps :=
 ⟨i.kp.trans (Kp.of i.kp.dk S),S _ _ i.m,S _ _ i.q,ad (λ_ _ h=>h.kt (ak.tups S)) i.pp,i.ok,i.l⟩
theorem AI.add {v:V} {p:Pr} (i:AI D H H' Lm Lq ws c n pv ps) (DA:D.At H) (hq:H Lq=none) (pa:PrA H' v p) (ok:ca ws p.1/\ca ws p.2):AI D H (upd H' Lq (.lst (pv++[v]))) Lm Lq ws c (n+1) (pv++[v]) (ps++[p]):=by
 have kt:a9 H' (upd H' Lq (.lst (pv++[v]))):=bU i.q;refine⟨Kp.fresh (DA.le (QM _ _)) hq i.kp,by rw[ah (λz=>by have:=i.m;rw[z,i.q]at this;cases this)];exact i.m,ag,aU (ad (λ_ _ h=>h.kt kt) i.pp) (pa.kt kt),λp' hp'=>?_,by rw[Qi];exact Nat.succ_le_succ i.l⟩;rcases Qz.mp hp' with h|h
 ·exact i.ok p' h
 rw[Qv.mp h];exact ok
end
def sF:Sp:=λvs H Q _=>∃(D:Dk) (o nl:Addr) (ov:List V) (ots:List Tu) (ws:List Str),vs=[.ref D.d,.ref o,.ref nl]/\D.At H/\D.n<50000/\H o=some (.lst ov)/\Paired (TuA H) ov ots/\H nl=some (.lst (ws.map V.str))/\(∀t,t∈ots↔ca ws t)/\1<=ots.length/\ots.length<=10/\ws.length<=5 /\
 ∀a kvs H',Kp (D.more 70) H H'->H a=none->MkD H' a ws kvs 52->Q (.ref a) H'
section
theorem lT:FnScope ["pool", "order", "names", "marks", "pairs", "turn", "at", "one", "other"] ["pool", "order", "names"] (aw (top 28)):=by fin2
theorem vH {f:Addr} {fd:FuncData} (Fu:Fun K "_law_arcs" "_law_arcs" (top 28) f fd) (T:Txt K mg TT) (f_law_take:Fn P w K mg base "_law_take" ["pool", "many"] 1 fc):FnOk P w K mg base CX0 2 f fd ["pool", "order", "names"] sF:=by
 have S:=lT;refine Fu.ok S (by room) (λcdv A outer s H vs Q E hr h=>?_);obtain⟨D,o,nl,ov,ots,ws,rfl,DA,dn,ho,po,hnl,all,o1,o10,w5,k⟩:=h;have hu:=cB hr;refine'⟨?_,?bb,?_⟩
 case bb =>
  walk_at "b";exact aE 3 S.nd tE;exact(lW (j:=4) S.nd rfl (by z_go) (tgs:=["name"]) (cap:=[("pool", 0)]) rfl ⟨rfl,rfl,rfl,rfl,rfl,rfl⟩ (br (pv 2)) (λ_ _ _ _=>(bI (i:=0) (show List.Nodup [("name" : Str),("pool" : Str)] by decide +kernel) rfl (by z_go))) (λ_ _ _ _=>(dm (aB mh (aH f_law_take hr (aa (pv 1) (aa af ac ay) ae)) af (aJ _)))) (λ_ _ _ _=>(be (aa (be (aa (pv 0) (aa aI ac ay) ae)) (aa (be (aa (pv 0) (aa aI ac ay) ae)) ac se_tup) se_tup))));walk_at "f";exact(cD (by rfl) T.n_range (aa (aH f_law_take hr (aa (pv 0) (aa (ao aD (a_ (aa af (aa af ac ay) ay)) (aH f_law_take hr (aa (pv 0) (aa af ac ay) ae))) ac) ae)) ac aM));exact(bD 5 S.nd);walk_at "p";refine' bM (bE QB Q4 Q5 bn (pv 4) ?a)
  case a =>
   walk_at "q";exact(ao aD (pv 1) (aH f_law_take hr (aa (pv 0) (aa (aF az (by rfl) T.n_len QV (aa (pv 1) ac ae)) ac aM) ae)));exact(ao aD (pv 1) (aH f_law_take hr (aa (pv 0) (aa (aF az (by rfl) T.n_len QV (aa (pv 1) ac ae)) ac aM) ae)))
  walk_at "f";exact(gG (by rfl) T.n_enumerate (aa (pv 1) ac ae));exact(fh rfl (bg (bD 6 S.nd) (bg (bD 5 S.nd) cS)));walk_at "p";exact(aB (ii hr.units) (jt (tgs:=["pair"]) (cap:=[("turn", 5)]) rfl ⟨rfl,rfl,rfl,rfl,rfl,rfl⟩ (br (pv 4)) (λ_ _ _ _=>(bI (i:=0) (show List.Nodup [("pair" : Str),("turn" : Str)] by decide +kernel) rfl (by z_go))) (λ_ _ _ _=>(dm (aB (vz (K:=K) rfl hr.units) (pv 1) (pv 0) rfl))) (λ_ _ _ _=>af)) (a_ ac) (aJ _));refine' bM (bE QB Q4 Q5 bn (pv 4) ?a)
  case a =>
   walk_at "q";exact(ao aD (pv 1) (aO f9 (pv 6) af));exact(pv 5)
  walk_at "f";exact(br (pv 4));exact(fh rfl (bg (bD 7 S.nd) (bg (bD 8 S.nd) cS)));walk_at "p";exact(aB (xS hr.units) (pv 7) (pv 8) (aJ _));exact(dE hu (pv 3) (be (aa (pv 7) (aa (pv 8) ac ae) ae)) (bw cI (by rfl) T.n_int XY (aa (cK mh (bE QB Xb Xc (cg hr.units) (pv 1) (aa (pv 7) ac ae)) (bE QB Xb Xc (cg hr.units) (pv 1) (aa (pv 8) ac ae)) (aJ _)) ac)) rfl);exact(PW.pt (pI (aB mh (aH f_law_take hr (aa (pv 0) (aa af ac ay) ae)) af (aJ _)) (nJ (aB dP (ao ax (pv 7) af) (ao ax (pv 8) af) (aJ _)))));exact(dE hu (pv 3) (be (aa (pv 8) (aa (pv 7) ac ae) ae)) (aO f9 af (eJ hu (pv 3) (be (aa (pv 7) (aa (pv 8) ac ae) ae)))) rfl);exact(aW (pv 3))
 x_go;have no_:¬D.own o:=io DA ho (λxs e=>by cases e;exact nW (rT po));have nn_:¬D.own nl:=io DA hnl (λxs e=>by cases e;exact nV ws);lk;refine λLm hLm=>?_;generalize hE:upd H Lm _=H1;obtain⟨S1,q1⟩:=aj hLm hE;have DA1:=DA.same S1;refine aA ?_;lk;refine b_ (s_list (aP rfl ⟨nl,rfl,⟨_,SqL.of (S1 _ _ hnl)⟩,λLq hLq1=>?_⟩));have hLq:=bJ S1 hLq1;refine cmK (I:=λv n=>v=V.str n) (xs:=ws) (λH v nm=>PrA H v ((nm, "+"),(nm, "-"))) DA1 hLq1 (S1 _ _ hnl) nn_ (d5 ws) (by omega) (λH H' v x k h=>h.kt k) (λi v x H' hi ev mx kp G N hG hN=>?_) (λH' ys zs kp hy sb pz=>?_)
 ·subst ev;refine aA ⟨⟨rfl,trivial⟩,?_⟩;lk;refine bi kp (by omega) (by omega) (by omega) λr H2 r0 r1 o2 kp2=>?_;lk;have k2:Kp (D.more (i+1)) H' H2:=⟨o2,kp2.dk⟩;cases decide (0<r)
  ·exact iteF (hN H2 k2)
  refine iteT ?_;lk;refine⟨by simp[sizeLine],λp1 h1=>?_⟩;generalize hE:upd H2 p1 _=H3;obtain⟨S3,q3⟩:=aj h1 hE;lk;refine⟨by simp[sizeLine],λp2 h2=>?_⟩;generalize hE:upd H3 p2 _=H4;obtain⟨S4,q4⟩:=aj h2 hE;lk;refine⟨by simp[sizeLine],λp3 h3=>?_⟩;generalize hE:upd H4 p3 _=H5;obtain⟨S5,q5⟩:=aj h3 hE;exact hG _ H5 (k2.trans (Kp.of k2.dk ((S3.trans S4).trans S5))) ⟨p3,_,_,rfl,q5,⟨p1,rfl,S5 _ _ (S4 _ _ q3)⟩,p2,rfl,S5 _ _ q4⟩
 have ai:AI D H H' Lm Lq ws 5 5 ys (zs.map λnm=>((nm, "+"),(nm, "-"))):=by
  have kpH:Kp (D.more ws.length) H H':=(Kp.of (D:=D.more ws.length) (DA.le (QM _ _)) S1).trans kp;refine⟨kpH.up w5,kp.old _ _ q1 (aC (D:=D) DA hLm),hy,bP (f:=λnm:Str=>(((nm, "+"),(nm, "-")):Pr)) pz,λp hp=>?_,by rw[Qd];exact QQ sb.length_le w5⟩;obtain⟨nm,hn,rfl⟩:=Ql.mp hp;have:=sb.subset hn;exact⟨⟨this,.inl rfl⟩,this,.inr rfl⟩
 generalize (zs.map λnm=>(((nm, "+"),(nm, "-")):Pr))=ps at ai;clear pz sb zs kp hy;lk;have ordA:∀{H':Hp} {k:Nat},Kp (D.more k) H H'->H' o=some (.lst ov)/\Paired (TuA H') ov ots:=λ{H' k} kp=>⟨kp.old _ _ ho no_,ad (λ_ _ h=>h.kt (Kp.tups (D:=D.more k) (DA.le (QM _ _)) kp)) po⟩;have pol:=am po
 have pick:∀{H':Hp} {k:Nat} {r:Int},Kp (D.more k) H H'->-(ov.length:Int)<=r->r<ov.length->∃v t,atI ov r=some v/\TuA H' v t/\ca ws t:=λ{H' k r} kp h0 h1=>by
  obtain⟨v,e,hv⟩:=kY h0 h1;obtain⟨t,ht,tu⟩:=dq (ordA kp).2 hv;exact⟨v,t,e,tu,(all t).mp ht⟩
 refine⟨by decide,λp0 hp0=>?_⟩;generalize hE:upd H' p0 _=H2;obtain⟨S2,q2⟩:=aj hp0 hE;have np0:¬D.own p0:=aC (D:=D.more _) ai.kp.dk hp0;have ai2:=ai.same S2;lk;refine bi ai2.kp (by omega) (by omega) (by omega) λr H3 r0 r1 o3 kp3=>?_;have ai3:=ai2.draw DA hLm hLq o3 kp3
 have at3:∃m:Int,atI [V.int 3,V.int 12] r=some (.int m)/\1<=m/\m<=12:=by
  have:r=0\/r=1:=by omega
  rcases this with rfl|rfl
  ·exact⟨3,rfl,by decide,by decide⟩
  exact⟨12,rfl,by decide,by decide⟩
 obtain⟨m,em,m1,m12⟩:=at3;refine bj (SqL.of (o3 _ _ q2 np0)) em ?_;lk;refine bi ai3.kp (by omega) (by omega) (by omega) λr H4 r0 r1 o4 kp4=>?_;have ai4:=ai3.draw DA hLm hLq o4 kp4;clear ai ai2 ai3 o3 o4 kp3 kp4 S2 q2 hE;refine bo ⟨r,rfl,by omega,by omega,?_⟩;let I10:IvF:=λi σ H'=>∃pv ps y,σ=[some (.ref D.d),some (.ref o),some (.ref nl),some (.ref Lm),some (.ref Lq),y,none,none,none]/\AI D H H' Lm Lq ws (7+2*i) (5+i) pv ps;refine cU I10 ⟨_,_,_,rfl,ai4⟩ (λi σ H' hi h=>?_) (λσ H' h=>?_)
 ·obtain⟨pv,ps,y,rfl,ai⟩:=h;have hq:=ai.q;have hoo:=(ordA ai.kp).1;refine aA ?_;lk;refine bi ai.kp (by omega) (by omega) (by omega) λr H2 r0 r1 o2 kp2=>?_;have ai2:=ai.draw DA hLm hLq o2 kp2;obtain⟨v1,t1,e1,tu1,ok1⟩:=pick kp2 (r:=r) (by omega) r1;refine bj (SqL.of (ordA kp2).1) e1 ?_;have hoo:=(ordA ai2.kp).1;lk;refine bi ai2.kp (by omega) (by omega) (by omega) λr H3 r0 r1 o3 kp3=>?_;have ai3:=ai2.draw DA hLm hLq o3 kp3;obtain⟨v2,t2,e2,tu2,ok2⟩:=pick kp3 (r:=r) (by omega) r1;refine bj (SqL.of (ordA kp3).1) e2 ?_;lk;refine⟨by simp[sizeLine],λp4 hp4=>?_⟩;generalize hE:upd H3 p4 _=H4;obtain⟨S4,q4⟩:=aj hp4 hE;have ai4:=ai3.same S4;have:=ai4.l;refine bo (dQ ai4.q (by rw[am ai4.pp];omega) ?_);exact⟨_,_,_,rfl,ai4.add (p:=(t1,t2)) DA hLq ⟨p4,_,_,rfl,q4,(tu1.kt (kp2.kt o3)).kt (ak.tups S4),tu2.kt (ak.tups S4)⟩ ⟨ok1,ok2⟩⟩
 obtain⟨pv,ps,y,rfl,ai⟩:=h;have ai:AI D H H' Lm Lq ws 29 16 pv ps:=⟨ai.kp.up (by omega),ai.m,ai.q,ai.pp,ai.ok,by have:=ai.l;omega⟩;have hoo:=(ordA ai.kp).1;lk;refine i_cons (aP rfl (bo ⟨o,rfl,⟨_,SqL.of hoo⟩,?_⟩));let I11:IvF:=λi σ H'=>∃pv ps y5 y6,σ=[some (.ref D.d),some (.ref o),some (.ref nl),some (.ref Lm),some (.ref Lq),y5,y6,none,none]/\AI D H H' Lm Lq ws 29 (16+i) pv ps;refine iG (xs:=ov) I11 ⟨_,_,_,_,rfl,ai⟩ (λi σ H' _ ⟨_,_,_,_,_,ai⟩=>SqL.of (ordA ai.kp).1) (λi x σ H' TA ex h hT=>?_) (λσ H' h=>?_)
 ·obtain⟨pv,ps,y5,y6,rfl,ai⟩:=h;have hi:=(Qc.mp ex).1;generalize hE:upd H' TA _=H2;obtain⟨S2,q2⟩:=aj hT hE;have ai2:=ai.same S2;obtain⟨t,et,tu⟩:=paired_get (ordA ai2.kp).2 ex;have tkt:=(all t).mp (Qh et);refine⟨TA,_,rfl,SqT.of q2,rfl,_,_,rfl,aA ⟨_,_,rfl,aA ⟨rfl,?_⟩⟩⟩;lk;refine b_ (s_list (aP rfl ⟨Lq,rfl,⟨_,SqL.of ai2.q⟩,λLc hLc=>?_⟩));refine eN (λp=>decide (p.1=t) || decide (p.2=t)) (λH v p=>v=.int 1) hLc ai2.q ai2.pp (by have:=ai2.l;omega) (λH H' v x k h=>h) (λv p H3 pa mp S3 G N hG hN=>?_) (λH3 ys S3 hy pz=>?_)
  ·refine aA ⟨⟨rfl,trivial⟩,?_⟩;lk;refine yh (pa.kt (ak.tups S3)) (tu.kt (ak.tups S3)) ⟨_,rfl,?_⟩;cases cc:(decide (p.1=t) || decide (p.2=t))
   ·exact iteF (hN cc H3 (ak.refl _))
   exact iteT (hG cc _ H3 (ak.refl _) rfl)
  refine pE hy λH4 S4=>?_;have ai4:=ai2.same (S3.trans S4);cases decide (ys.length=0)
  ·exact iteF (s_next ⟨_,_,_,_,rfl,ai4.kp,ai4.m,ai4.q,ai4.pp,ai4.ok,QQ ai4.l (Nat.le_succ _)⟩)
  refine iteT ?_;have hq4:=ai4.q;lk;obtain⟨v1,t1,e1,tu1,ok1⟩:=pick ai4.kp (r:=(i:Int)-1) (by omega) (by omega);refine bj (SqL.of (ordA ai4.kp).1) e1 ?_;lk;refine⟨by simp[sizeLine],λp4 hp4=>?_⟩;generalize hE:upd H4 p4 _=H5;obtain⟨S5,q5⟩:=aj hp4 hE;have ai5:=ai4.same S5;have:=ai5.l;refine bo (dQ ai5.q (by rw[am ai5.pp];omega) ?_);exact⟨_,_,_,_,rfl,ai5.add (p:=(t1,t)) DA hLq ⟨p4,_,_,rfl,q5,tu1.kt (ak.tups S5),tu.kt (ak.tups ((S3.trans S4).trans S5))⟩ ⟨ok1,tkt⟩⟩
 obtain⟨pv,ps,y5,y6,rfl,ai⟩:=h;have pl:=am ai.pp;have p26:pv.length<=26:=by have:=ai.l;omega
 lk;refine⟨Lq,rfl,⟨_,SqL.of ai.q⟩,?_⟩;have nq:¬D.own Lq:=aC DA hLq;have nm:¬D.own Lm:=aC DA hLm;have aip:=ai.pp;have Hk:=ai.kp;generalize hHC:H'=HC at ai aip Hk;subst hHC;let I12:IvF:=λi σ H'=>∃kvs y7 y8,σ=[some (.ref D.d),some (.ref o),some (.ref nl),some (.ref Lm),some (.ref Lq),y5,y6,y7,y8]/\Kp (D.more (29+i)) H H'/\H' Lq=some (.lst pv)/\Paired (PrA H') pv ps/\MkD H' Lm ws kvs (2*i);refine bY (xs:=pv) I12 ⟨[],_,_,rfl,ai.kp,ai.q,ai.pp,ai.m,QT _,(λ_ h=>nomatch h),.nil⟩ (λi σ H' _ ⟨_,_,_,_,_,h,_⟩=>SqL.of h) (λi x σ H' ex h=>?_) (λσ H' h=>?_)
 ·obtain⟨kvs,y7,y8,rfl,kp,hq,pp,md⟩:=h;have hi:=(Qc.mp ex).1;obtain⟨p,ep,pa⟩:=paired_get pp ex;have pok:=ai.ok p (Qh ep);obtain⟨b,v1,v2,rfl,hb,tu1,tu2⟩:=pa;refine⟨b,_,rfl,SqT.of hb,rfl,_,_,rfl,aA ⟨_,_,rfl,aA ⟨rfl,?_⟩⟩⟩;lk;refine gh tu1 tu2 ⟨_,rfl,?_⟩;by_cases ce:p.1=p.2
  ·exact ifF (by rw[Qu ce];rfl) (s_next ⟨kvs,_,_,rfl,kp.up (by omega),hq,pp,md.h,QQ md.l (by omega),md.ok,md.nd⟩)
  refine ifT (by rw[Qw ce];rfl) ?_;have hoo:=ordA kp;have ho1:=hoo.1;have mq:Lm≠Lq:=λz=>by have:=md.h;rw[z,hq]at this;cases this
  kt_k;refine fg ?_;lk;refine cq ho1 hoo.2 tu1 ((all _).mpr pok.1) ?_;lk;refine cq ho1 hoo.2 tu2 ((all _).mpr pok.2) ?_;lk;refine⟨by simp[sizeLine],λp3 h3=>?_⟩;have hm:=bit (decide (((ots.idxOf p.2:Nat):Int)<(ots.idxOf p.1:Nat)));generalize (if (decide (((ots.idxOf p.2:Nat):Int)<(ots.idxOf p.1:Nat)))=true then (1:Int) else 0)=m at hm ⊢;generalize hE:upd H' p3 _=H2;obtain⟨S2,q2⟩:=aj h3 hE;have pa2:PrA H2 (.ref p3) p:=⟨p3,_,_,rfl,q2,tu1.kt (ak.tups S2),tu2.kt (ak.tups S2)⟩;have hm2:=S2 _ _ md.h;have:=md.l;refine⟨Lm,_,rfl,fX.t hm2 pa2.tk (by omega),?_⟩;generalize hE3:upd H2 Lm _=H3;have q3:H3 Lm=some (.dT (bq kvs (tkR p) (.int m))):=by rw[<-hE3];exact ag
  have kt3:a9 H' H3:=λb ys e=>by rw[<-hE3];exact dI hm2 _ _ (S2 _ _ e)
  have hq3:H3 Lq=some (.lst pv):=by rw[<-hE3,ah mq.symm];exact S2 _ _ hq
  have md3:=md.put (H':=H3) ⟨pok.1,pok.2,ce⟩ hm q3;have kp3:Kp (D.more (29+i)) H H3:=by rw[<-hE3];exact Kp.fresh (DA.le (QM _ _)) hLm (kp.trans (Kp.of kp.dk S2))
  kt_k;refine vv (λH4=>Kp (D.more (29+i+1)) H H4/\∀b o,H3 b=some o->¬D.own b->H4 b=some o) (λH4 j=>iteT ?_) (λH4 j=>iteF ?_) (λR' hR=>?_)
  ·obtain⟨kp4,o4⟩:=j;have kt4:a9 H' H4:=λb ys e=>kp3.kt o4 _ _ (kt3 _ _ e);have md4:=md3.same (H':=H4) λo e=>o4 _ _ e nm;have tu14:=tu1.kt kt4;have tu24:=tu2.kt kt4;refine fg ?_;lk;refine⟨by simp[sizeLine],λp5 h5=>?_⟩;generalize hE:upd H4 p5 _=H5;obtain⟨S5,q5⟩:=aj h5 hE;have pa5:PrA H5 (.ref p5) p:=⟨p5,_,_,rfl,q5,tu14.kt (ak.tups S5),tu24.kt (ak.tups S5)⟩;have hm5:=S5 _ _ md4.h;refine⟨Lm,_,rfl,by have z:=cN.t hm5 pa5.tk;rw[cX,Qs rfl]at z;exact z,?_⟩;lk;refine⟨by simp[sizeLine],λp6 h6=>?_⟩;generalize hE:upd H5 p6 _=H6;obtain⟨S6,q6⟩:=aj h6 hE;have S56:=S5.trans S6;have pa6:PrA H6 (.ref p6) (p.2,p.1):=⟨p6,_,_,rfl,q6,tu24.kt (ak.tups S56),tu14.kt (ak.tups S56)⟩;have hm6:=S6 _ _ hm5;refine⟨Lm,_,rfl,fX.t hm6 pa6.tk (by have:=bQ kvs (tkR p) (.int m);omega),?_⟩;have md6:=md4.put (H':=upd H6 Lm (.dT (bq (bq kvs (tkR p) (.int m)) (tkR (p.2,p.1)) (.int (1-m))))) (p:=(p.2,p.1)) (m:=1-m) ⟨pok.2,pok.1,λz=>ce z.symm⟩ (by omega) ag;refine⟨_,_,_,rfl,Kp.fresh (DA.le (QM _ _)) hLm (kp4.trans (Kp.of kp4.dk S56)),by rw[ah mq.symm];exact S56 _ _ (o4 _ _ hq3 nq),ad (λ_ _ h=>h.kt λb ys e=>dI hm6 _ _ (S56 _ _ (kt4 _ _ e))) pp,md6⟩
  ·obtain⟨kp4,o4⟩:=j;have kt4:a9 H' H4:=λb ys e=>kp3.kt o4 _ _ (kt3 _ _ e);have md4:=md3.same (H':=H4) λo e=>o4 _ _ e nm;exact s_next ⟨_,_,_,rfl,kp4,o4 _ _ hq3 nq,ad (λ_ _ h=>h.kt kt4) pp,md4.h,QQ md4.l (by omega),md4.ok,md4.nd⟩
  obtain⟨a1,rfl,ha1⟩:=tu1.kt kt3;obtain⟨a2,rfl,ha2⟩:=tu2.kt kt3;lk;refine bi kp3 (by omega) (by omega) (by omega) λr H4 r0 r1 o4 kp4=>?_;have kt4:=kp3.kt o4;have ha14:=kt4 _ _ ha1;have ha24:=kt4 _ _ ha2;lk;cases decide (0<r)
  ·refine iteF ?_;lk;exact hR _ _ ⟨kp4,o4⟩
  exact iteT (hR _ _ ⟨kp4,o4⟩)
 obtain⟨kvs,y7,y8,rfl,kp,hq,pp,md⟩:=h;exact s_ret (aP rfl (k Lm kvs H' (kp.up (by omega)) hLm ⟨md.h,QQ md.l (by omega),md.ok,md.nd⟩))
end
def Ao (r:Rg):Prop:=∀t,ca r.ws t->∃a∈r.arcs,a.two=t
structure RgX (r:Rg):Prop where
 low:∀n∈r.ws,NmL n
 i4:r.ins.length<=4
 o1:1<=r.outs.length
def sy:Sp:=λvs H Q _=>∃(D:Dk),vs=[.ref D.d]/\D.At H/\D.n<40000 /\
 ∀a li lo l as (r:Rg) H',Kp (D.more 1000) H H'->(∀b∈[a,li,lo,l],H b=none)->RgA H' a li lo l as r->RgOk r->Ao r->RgX r->Q (.ref a) H'
theorem pf (st:StOk n z) (hc:c=48\/c=49):StOk (n+1) (z++⟨#[c]⟩):=by
 have e:(z++(⟨#[c]⟩:Str)).cps=z.cps++#[c]:=rfl;refine⟨by rw[e,Array.size_append,st.len];rfl,λd hd=>?_⟩;rw[e,Array.toList_append]at hd;rcases Qz.mp hd with h|h
 ·exact st.signs d h
 have:d=c:=by simpa using h
 rw[this];exact hc
theorem ic {α β:Type} {F:α->β->Prop}:∀{xs us:List α} {ys ws:List β},Paired F xs ys->Paired F us ws->Paired F (xs++us) (ys++ws)
 | _,_,_,_,.nil,h=>h
 | _,_,_,_,.cons r t,h=>.cons r (ic t h)
theorem jn {o:HO} (S:ak (upd H a o) H'):ak H (back H a H'):=λb u e=>by
 by_cases c:b=a
 ·rw[c,gk,<-c];exact e
 rw[bK c];exact S b u (by rw[ah c];exact e)
section
variable {α:Type} {K:PySem.W.Frag} {H1:Hp} {D:Addr} {σ0:St} {g:TG} {te:TE} {tt:L2.TT} {QD:Hp->Prop}
theorem wm {a:Addr} {o:Obj} {kvs:List (av × V)} (c:av × V->Bool) (R:Hp->V->av × V->Prop) (hD:H1 D=none) (e:H1 a=some (.frz o (.dT kvs))) (few:kvs.length<=100000) (mono:∀H H' v x,a9 H H'->R H v x->R H' v x)
  (hs:∀kv b H,kv∈kvs->bL H kv.1 b->ak H1 H->∀(G:V->Hp->Prop) (N:Hp->Prop),(c kv=true->∀u H2,ak H H2->R H2 u kv->G u H2)->(c kv=false->∀H2,ak H H2->N H2)->g (.ref b) σ0 H λσ2 H2=>wk σ0 σ2/\tt σ2 H2 λb H3=>if b=true then te σ2 H3 G else N H3)
  (hd:∀H ys,ak H1 H->H D=some (.lst ys)->Paired (R H) ys (kvs.filter c)->QD H) :
  ∃W:Nat->Nat->Hp->List V->Prop,(∃m,W 0 m (upd H1 D (.lst [])) [])/\∀i m H ys,W i m H ys->H D=some (.lst ys)/\(((uY a o kvs).stop i H/\QD H)\/((uY a o kvs).go i H/\∀x H',(uY a o kvs).yld i H x H'->g x σ0 H' λσ2 H2=>wk σ0 σ2/\tt σ2 H2 λb H3 =>
   if b=true then te σ2 H3 λv H4=>H4 D=some (.lst ys)/\ys.length<sizeLine/\∃m',m'<m/\W (i+1) m' (upd H4 D (.lst (ys++[v]))) (ys++[v]) else ∃m',m'<m/\W (i+1) m' H3 ys)):=by
 refine cm kvs c R hD few mono (λi H S hi=>⟨S _ _ e,hi⟩) (λH S=>⟨S _ _ e,Qg _⟩) (λi x H v H' ex S y=>?_) hd;obtain⟨e',k,u,b,hk,ev,tb⟩:=y;subst e' ev;rw[ex]at hk;cases hk;exact hs _ b _ (Qh ex) tb S
end
theorem xZ {bs:A3} (h:KsA H bs ks) (hk:∀k∈ks,∃p,k=tkR p):∃ps:List Pr,ks=ps.map tkR/\Paired (PrA H) (bs.map V.ref) ps:=by
 induction h with
 | nil=>exact⟨[],rfl,.nil⟩
 | @cons b k _ _ r _ ih =>
 obtain⟨ts,e,p⟩:=ih λk hk'=>hk k (Qp _ hk');obtain⟨t,rfl⟩:=hk k (by simp);exact⟨t::ts,by rw[e];rfl,.cons (PrA.of r) p⟩
theorem MkD.keys {ws:List Str} (d:MkD H a ws kvs n):∀k∈kvs.map (·.1),∃p,k=tkR p:=λk hk=>by
 obtain⟨kv,h,rfl⟩:=Ql.mp hk;obtain⟨p,e,_⟩:=d.ok kv h;exact⟨p,e⟩
theorem MkD.shp {ws:List Str} (d:MkD H a ws kvs n):rN false (kvs.map (·.1)):=by
 refine⟨λx hx y hy=>?_,λx hx=>?_⟩
 ·obtain⟨p,rfl⟩:=d.keys x hx;obtain⟨q,rfl⟩:=d.keys y hy;rfl
 obtain⟨p,rfl⟩:=d.keys x hx;exact⟨_,_,rfl⟩
theorem MkD.sort {K:PySem.W.Frag} {ws:List Str} (d:MkD H a ws kvs n) (hn:n<64) (q:∀p vs (ps:List Pr),H p=none->Paired (PrA H) vs ps->(ps.map tkR).Perm (kvs.map (·.1))->(ps.map tkR).Pairwise leF->Q (.ref p) (upd H p (.lst vs))):sS K [.ref a] H Q:=by
 refine⟨a,_,false,rfl,.inr ⟨kvs,.inl d.h,rfl⟩,d.shp,by rw[Qd];exact XO d.l hn,λp bs ks hp ka pm so=>?_⟩;obtain⟨ps,rfl,pp⟩:=xZ ka λk hk=>d.keys k (pm.mem_iff.mp hk);exact q p _ ps hp pp pm so
structure RI (D:Dk) (H H':Hp) (nl tl ol Lm:Addr) (ws:List Str) (tv:List V) (tts:List Tu) (ov:List V) (ots:List Tu) (kvs:List (av × V)) (n c:Nat):Prop where
 kp:Kp (D.more c) H H'
 nl:H' nl=some (.lst (ws.map V.str))
 tl:H' tl=some (.lst tv)
 tp:Paired (TuA H') tv tts
 ol:H' ol=some (.lst ov)
 op:Paired (TuA H') ov ots
 md:MkD H' Lm ws kvs n
section
variable {D:Dk} {H H' H2:Hp} {nl tl ol Lm:Addr} {ws:List Str} {tv ov:List V} {tts ots:List Tu} {kvs:List (av × V)} {n c:Nat}
theorem RI.draw {c':Nat} (i:RI D H H' nl tl ol Lm ws tv tts ov ots kvs n c) (no:∀b∈[nl,tl,ol,Lm],¬D.own b) (old:∀b o,H' b=some o->¬D.own b->H2 b=some o) (k:Kp (D.more c') H H2):RI D H H2 nl tl ol Lm ws tv tts ov ots kvs n c' :=
 have kt:=i.kp.kt old
 ⟨k,old _ _ i.nl (no _ (by simp)),old _ _ i.tl (no _ (by simp)),ad (λ_ _ h=>h.kt kt) i.tp,old _ _ i.ol (no _ (by simp)),ad (λ_ _ h=>h.kt kt) i.op,i.md.same λo e=>old _ _ e (no _ (by simp))⟩
theorem RI.same (i:RI D H H' nl tl ol Lm ws tv tts ov ots kvs n c) (S:ak H' H2):RI D H H2 nl tl ol Lm ws tv tts ov ots kvs n c :=
 ⟨i.kp.trans (Kp.of i.kp.dk S),S _ _ i.nl,S _ _ i.tl,ad (λ_ _ h=>h.kt (ak.tups S)) i.tp,S _ _ i.ol,ad (λ_ _ h=>h.kt (ak.tups S)) i.op,i.md.same λo e=>S _ _ e⟩
theorem RI.up {n' c':Nat} (i:RI D H H' nl tl ol Lm ws tv tts ov ots kvs n c) (hn:n<=n') (hc:c<=c'):RI D H H' nl tl ol Lm ws tv tts ov ots kvs n' c' :=
 ⟨i.kp.up hc,i.nl,i.tl,i.tp,i.ol,i.op,i.md.h,QQ i.md.l hn,i.md.ok,i.md.nd⟩
theorem RI.set {kvs':List (av × V)} {n':Nat} (i:RI D H H' nl tl ol Lm ws tv tts ov ots kvs n c) (DA:D.At H) (hm:H Lm=none) (d:MkD (upd H' Lm (.dT kvs')) Lm ws kvs' n'):RI D H (upd H' Lm (.dT kvs')) nl tl ol Lm ws tv tts ov ots kvs' n' c:=by
 have kt:a9 H' (upd H' Lm (.dT kvs')):=dI i.md.h;have ne:∀{b xs},H' b=some (.lst xs)->b≠Lm:=λe z=>by have:=i.md.h;rw[<-z,e]at this;cases this
 exact⟨Kp.fresh (DA.le (QM _ _)) hm i.kp,by rw[ah (ne i.nl)];exact i.nl,by rw[ah (ne i.tl)];exact i.tl,ad (λ_ _ h=>h.kt kt) i.tp,by rw[ah (ne i.ol)];exact i.ol,ad (λ_ _ h=>h.kt kt) i.op,d⟩
end
def n9 (kvs:List (av × V)) (p:Pr):Int:=match aV kvs (tkR p) with
 | some (.int m)=>m
 | _=>0
def vt (z:Str):Str:=if z = "+" then "-" else "+"
theorem xQ {ws:List Str} {t:Tu} (h:ca ws t):ca ws (t.1,vt t.2)/\((t.1,vt t.2):Tu)≠t:=by
 unfold vt;rcases h.2 with e|e
 ·rw[Qs e];exact⟨⟨h.1,.inr rfl⟩,λz=>by have z:("-" : Str)=t.2:=congrArg Prod.snd z;rw[e]at z;exact absurd z (by decide +kernel)⟩
 rw[Qn (by rw[e];decide +kernel)];exact⟨⟨h.1,.inl rfl⟩,λz=>by have z:("+" : Str)=t.2:=congrArg Prod.snd z;rw[e]at z;exact absurd z (by decide +kernel)⟩
theorem xR (h:z = "+" \/ z = "-"):∃c,atI ("+-" : Str).cps.toList (if decide (V.str z=V.str "+")=true then 1 else 0)=some c/\(⟨#[c]⟩:Str)=vt z:=by
 rcases h with rfl|rfl
 ·exact⟨45,by decide +kernel,by decide +kernel⟩
 exact⟨43,by decide +kernel,by decide +kernel⟩
theorem Ak (x:Int):∃c,atI ("01" : Str).cps.toList (x % 2)=some c/\(c=48\/c=49):=by
 have:x % 2=0\/x % 2=1:=by omega
 rcases this with e|e
 ·rw[e];exact⟨48,by decide +kernel,.inl rfl⟩
 rw[e];exact⟨49,by decide +kernel,.inr rfl⟩
theorem mr {ws:List Str} {p:Pr} (d:MkD H a ws kvs n) (h:tkR p∈kvs.map (·.1)):PrOk ws p/\aV kvs (tkR p)=some (.int (n9 kvs p))/\(n9 kvs p=0\/n9 kvs p=1):=by
 obtain⟨ok,m,e,hm⟩:=d.val h;have:n9 kvs p=m:=by unfold n9;rw[e]
 rw[this];exact⟨ok,e,hm⟩
def m9 (kvs:List (av × V)) (p:Pr):Arc:=⟨p.1,p.2,n9 kvs p⟩
def bW (ws:List Str):List Tu:=(ws.map λn=>((n, "+"):Tu))++(ws.map λn=>((n, "-"):Tu))
theorem bS {ws:List Str} {t:Tu}:t∈bW ws↔ca ws t:=by
 unfold bW ca;rw[Qz,Ql,Ql]
 constructor
 ·rintro(⟨n,h,rfl⟩|⟨n,h,rfl⟩)
  ·exact⟨h,.inl rfl⟩
  exact⟨h,.inr rfl⟩
 rintro⟨h,e|e⟩
 ·exact .inl ⟨t.1,h,Prod.ext rfl e.symm⟩
 exact .inr ⟨t.1,h,Prod.ext rfl e.symm⟩
theorem wa {K:PySem.W.Frag} {ws:List Str} (hv:σ[i]?=some (some (.ref nl))) (qn:H nl=some (.lst (ws.map V.str))) (w5:ws.length<=1000)
  (q:∀tl tv H',ak H H'->H tl=none->H' tl=some (.lst tv)->Paired (TuA H') tv (bW ws)->Q (.ref tl) H') :
  tOp xH (gL (mO K (e_ i)) (dv 0) lF (rX (eO (e_ 0) (eO (tC (V.str "+")) j3))) (bB ["name"] [])) (gL (mO K (e_ i)) (dv 0) lF (rX (eO (e_ 0) (eO (tC (V.str "-")) j3))) (bB ["name"] [])) σ H Q:=by
 have one:∀{z:Str} {H:Hp} {σ:St} {Q:VK},σ[i]?=some (some (.ref nl))->H nl=some (.lst (ws.map V.str))->(∀L y H',ak H H'->H' L=some (.lst y)->Paired (λv n=>TuA H' v (n,z)) y ws->Q (.ref L) H')->gL (mO K (e_ i)) (dv 0) lF (rX (eO (e_ 0) (eO (tC (V.str z)) j3))) (bB ["name"] []) σ H Q:=λ{z H σ Q} hv qn q=>by
  refine b_ (s_list (aP hv ⟨nl,rfl,⟨_,SqL.of qn⟩,λL1 hL1=>?_⟩));refine eN (I:=λv n=>v=V.str n) (λ_=>true) (λH v (n:Str)=>TuA H v (n,z)) hL1 qn (d5 ws) (by omega) (λH H' v x k h=>h.kt k) (λv x H' ev mx S' G N hG _=>?_) (λH6 y1 S6 hy1 py1=>?_)
  ·subst ev;refine aA ⟨trivial,i_yes (iteT ?_)⟩;refine i_tup (i_cons (aP rfl (i_cons (i_c (bo ⟨by simp[sizeLine],λp1 h1=>?_⟩)))));exact hG rfl _ _ (ar h1) ⟨p1,rfl,ag⟩
  rw[dy]at py1;exact q L1 y1 H6 S6 hy1 py1
 refine i_op (one hv qn λL1 y1 H6 S6 hy1 py1=>one hv (S6 _ _ qn) λL2 y2 H7 S7 hy2 py2=>?_);have l1:=am py1;have l2:=am py2;have big:100000<sizeLine:=by decide
 refine iE (S7 _ _ hy1) hy2 (by omega) λtl htl=>?_;have S8:=ar (o:=.lst (y1++y2)) htl;exact q tl _ _ ((S6.trans S7).trans S8) (bJ (S6.trans S7) htl) ag (ic (bP (f:=λn:Str=>((n, "+"):Tu)) (ad (λ_ _ h=>h.kt (ak.tups (S7.trans S8))) py1)) (bP (f:=λn:Str=>((n, "-"):Tu)) (ad (λ_ _ h=>h.kt (ak.tups S8)) py2)))
theorem dD (ws:List Str):(bW ws).length=2*ws.length:=by unfold bW;rw[Qi,Qd,Qd];omega
open Classical in
open Classical in
open Classical in
def FdA (Os:A3) (H:Hp) (v:V) (f:Pl × List Tu):Prop:=∃b mb wb,v=.ref b/\H b=some (.tup [.ref mb,.str f.1.2,.ref wb])/\mb∉Os/\wb∉Os/\H mb=some (.lst (f.1.1.map V.int))/\lg H wb f.2
variable {Os nas:A3}
theorem FdA.keep {f:Pl × List Tu} (kt:a9 H H') (kb:∀b o,H b=some o->b∉Os->H' b=some o) (h:FdA Os H v f):FdA Os H' v f:=by
 obtain⟨b,mb,wb,e,q,n1,n2,q1,q2⟩:=h;exact⟨b,mb,wb,e,kt _ _ q,n1,n2,kb _ _ q1 n1,q2.keep kt λvs e=>kb _ _ e n2⟩
theorem FdA.more {v:V} {f:Pl × List Tu} (hN:H N=none) (h:FdA Os H v f):FdA (N::Os) H v f:=by
 obtain⟨b,mb,wb,e,q,n1,n2,q1,vs,q2,q3⟩:=h;exact⟨b,mb,wb,e,q,λz=>(Qj.mp z).elim (λz=>by rw[z,hN]at q1;cases q1) n1,λz=>(Qj.mp z).elim (λz=>by rw[z,hN]at q2;cases q2) n2,q1,vs,q2,q3⟩
theorem FdA.less {f:Pl × List Tu} (h:FdA (N::Os) H v f):FdA Os H v f:=by
 obtain⟨b,mb,wb,e,q,n1,n2,q1,q2⟩:=h;exact⟨b,mb,wb,e,q,λz=>n1 (Qp _ z),λz=>n2 (Qp _ z),q1,q2⟩
structure LU (H0 H:Hp) (Lf Lo:Addr) (Os:A3) (x:Sx) (fv:List V) (nas:A3) (nds:List Nd):Prop where
 s:ak H0 H
 f:H Lf=some (.lst fv)
 fp:Paired (FdA Os H) fv (x.ps.zip x.ws)
 o:H Lo=some (.lst (nas.map V.ref))
 op:Paired (lu H) nas nds
 ap:∀b∈nas,b∉Os
 nd:nas.Nodup
 nw:∀b∈nas,H0 b=none
 iF:Lf∈Os
 iO:Lo∈Os
 ne:Lf≠Lo
 new:∀b∈Os,H0 b=none
 li:∀b∈Os,∃xs,H b=some (.lst xs)
section
variable {H0 H H':Hp} {Lf Lo:Addr} {Os:A3} {x:Sx} {fv:List V} {nas:A3} {nds:List Nd}
theorem LU.same (u:LU H0 H Lf Lo Os x fv nas nds) (S:ak H H'):LU H0 H' Lf Lo Os x fv nas nds :=
 ⟨u.s.trans S,S _ _ u.f,ad (λ_ _ h=>h.keep (ak.tups S) λb o e _=>S b o e) u.fp,S _ _ u.o,ad (λ_ _ h=>h.keep (ak.tups S) λvs e=>S _ _ e) u.op,u.ap,u.nd,u.nw,u.iF,u.iO,u.ne,u.new,λb hb=>let ⟨xs,e⟩:=u.li b hb;⟨xs,S _ _ e⟩⟩
theorem LU.at {L:Addr} {xs:List V} (u:LU H0 H Lf Lo Os x fv nas nds) (hL:L∈Os):a9 H (upd H L (.lst xs))/\(∀b o,H b=some o->b∉Os->upd H L (.lst xs) b=some o)/\ak H0 (upd H L (.lst xs))/\∀b∈Os,∃ys,upd H L (.lst xs) b=some (.lst ys):=by
 obtain⟨zs,e⟩:=u.li L hL;refine⟨bU e,λb o e n=>by rw[ah (λz:b=L=>n (by rw[z];exact hL))];exact e,bO u.s (u.new L hL),λb hb=>?_⟩;by_cases c:b=L
 ·rw[c];exact⟨_,ag⟩
 rw[ah c];exact u.li b hb
theorem LU.put {N:Addr} {xs:List V} (u:LU H0 H Lf Lo Os x fv nas nds) (hN:N∈Os) (n1:N≠Lf) (n2:N≠Lo):LU H0 (upd H N (.lst xs)) Lf Lo Os x fv nas nds:=by
 obtain⟨kt,kb,s,li⟩:=u.at (xs:=xs) hN;exact⟨s,by rw[ah n1.symm];exact u.f,ad (λ_ _ h=>h.keep kt kb) u.fp,by rw[ah n2.symm];exact u.o,bA u.op λb w hb h=>h.keep kt λvs e=>kb _ _ e (u.ap b hb),u.ap,u.nd,u.nw,u.iF,u.iO,u.ne,u.new,li⟩
theorem LU.found {v:V} {p:Pl} {w:List Tu} (u:LU H0 H Lf Lo Os x fv nas nds) (hl:x.ws.length=x.ps.length) (f:FdA Os H v (p,w)):LU H0 (upd H Lf (.lst (fv++[v]))) Lf Lo Os ⟨x.ps++[p],x.ws++[w]⟩ (fv++[v]) nas nds:=by
 obtain⟨kt,kb,s,li⟩:=u.at (xs:=fv++[v]) u.iF;refine⟨s,ag,?_,by rw[ah u.ne.symm];exact u.o,bA u.op λb w hb h=>h.keep kt λvs e=>kb _ _ e (u.ap b hb),u.ap,u.nd,u.nw,u.iF,u.iO,u.ne,u.new,li⟩;show Paired _ _ ((x.ps++[p]).zip (x.ws++[w]));rw[List.zip_append hl.symm];exact aU (ad (λ_ _ h=>h.keep kt kb) u.fp) (f.keep kt kb)
theorem LU.node {N:Addr} {nd:Nd} (u:LU H0 H Lf Lo (N::Os) x fv nas nds) (iF:Lf∈Os) (iO:Lo∈Os) (nN:N∉Os) (at_:lu H N nd) (no:N∉nas):LU H0 (upd H Lo (.lst ((nas++[N]).map V.ref))) Lf Lo Os x fv (nas++[N]) (nds++[nd]):=by
 obtain⟨kt,kb,s,li⟩:=u.at (xs:=(nas++[N]).map V.ref) u.iO;have hN:N≠Lo:=λz=>nN (z▸iO);refine⟨s,by rw[ah u.ne];exact u.f,ad (λ_ _ h=>(h.keep kt kb).less) u.fp,ag,aU (bA u.op λb w hb h=>h.keep kt λvs e=>kb _ _ e (u.ap b hb)) (at_.keep kt λvs e=>by rw[ah hN];exact e),λb hb=>?_,?_,λb hb=>?_,iF,iO,u.ne,λb hb=>u.new b (Qp _ hb),λb hb=>li b (Qp _ hb)⟩
 ·rcases Qz.mp hb with h|h
  ·exact λz=>u.ap b h (Qp _ z)
  rw[Qv.mp h];exact nN
 ·rw[XC];refine⟨u.nd,by simp,λa ha b hb=>?_⟩;rw[Qv.mp hb];exact λz=>no (z▸ha)
 rcases Qz.mp hb with h|h
 ·exact u.nw b h
 rw[Qv.mp h];exact u.new N (by simp)
theorem LU.apart {N:Addr} {xs:List V} (u:LU H0 H Lf Lo Os x fv nas nds) (hN:H N=none):LU H0 (upd H N (.lst xs)) Lf Lo (N::Os) x fv nas nds:=by
 have S:=ar (o:=.lst xs) hN;have u2:=u.same S;refine⟨u2.s,u2.f,ad (λ_ _ h=>(h.more hN).keep (ak.tups S) λb o e _=>S b o e) u.fp,u2.o,u2.op,λb hb z=>?_,u.nd,u.nw,Qp _ u.iF,Qp _ u.iO,u.ne,λb hb=>?_,λb hb=>?_⟩
 ·rcases Qj.mp z with z|z
  ·obtain⟨y,hy,vs,e,_⟩:=dq u.op hb;rw[z,hN]at e;cases e
  exact u.ap b hb z
 ·rcases Qj.mp hb with z|z
  ·rw[z];exact bJ u.s hN
  exact u.new b z
 rcases Qj.mp hb with z|z
 ·rw[z];exact⟨_,ag⟩
 exact u2.li b z
end
structure LV (Hb H:Hp) (Lf Lo N mb wb:Addr) (r:Rg) (x:Sx) (fv:List V) (nas:A3) (nds:List Nd) (p:Pl) (way:List Tu) (ndv:List V) (nd:Nd):Prop where
 u:LU Hb H Lf Lo [N,Lf,Lo] x fv nas nds
 xo:x.Ok r
 hN:H N=some (.lst ndv)
 pn:Paired (SgA H) ndv nd
 gp:x.ps[nds.length]?=some p
 gw:x.ws[nds.length]?=some way
 hm:H mb=some (.lst (p.1.map V.int))
 nm:mb∉[N,Lf,Lo]
 hw:lg H wb way
 nw:wb∉[N,Lf,Lo]
section
variable {Hb H H':Hp} {Lf Lo N mb wb:Addr} {r:Rg} {x:Sx} {fv:List V} {nas:A3} {nds:List Nd} {p:Pl} {way:List Tu} {ndv:List V} {nd:Nd}
theorem LV.put {v:V} {e:Str × Nat} (i:LV Hb H Lf Lo N mb wb r x fv nas nds p way ndv nd) (n1:N≠Lf) (n2:N≠Lo) (h:SgA H v e):LV Hb (upd H N (.lst (ndv++[v]))) Lf Lo N mb wb r x fv nas nds p way (ndv++[v]) (nd++[e]):=by
 obtain⟨kt,kb,_⟩:=i.u.at (L:=N) (xs:=ndv++[v]) (by simp);exact⟨i.u.put (by simp) n1 n2,i.xo,ag,aU (ad (λ_ _ h=>h.kt kt) i.pn) (h.kt kt),i.gp,i.gw,kb _ _ i.hm i.nm,i.nm,i.hw.keep kt λvs e=>kb _ _ e i.nw,i.nw⟩
theorem LV.found {v:V} {p':Pl} {w':List Tu} (i:LV Hb H Lf Lo N mb wb r x fv nas nds p way ndv nd) (n1:N≠Lf) (xo:Sx.Ok r ⟨x.ps++[p'],x.ws++[w']⟩) (f:FdA [N,Lf,Lo] H v (p',w')):LV Hb (upd H Lf (.lst (fv++[v]))) Lf Lo N mb wb r ⟨x.ps++[p'],x.ws++[w']⟩ (fv++[v]) nas nds p way ndv nd:=by
 obtain⟨kt,kb,_⟩:=i.u.at (L:=Lf) (xs:=fv++[v]) i.u.iF;refine⟨i.u.found i.xo.1 f,xo,by rw[ah n1];exact i.hN,ad (λ_ _ h=>h.kt kt) i.pn,?_,?_,kb _ _ i.hm i.nm,i.nm,i.hw.keep kt λvs e=>kb _ _ e i.nw,i.nw⟩
 ·rw[QG (Qc.mp i.gp).1];exact i.gp
 rw[QG (Qc.mp i.gw).1];exact i.gw
end
theorem m_ {ws:List Str} (nd:ws.Nodup):(bW ws).Nodup:=by
 unfold bW;rw[XC];refine⟨Xo.mpr (nd.imp λh e=>h (congrArg Prod.fst e)),Xo.mpr (nd.imp λh e=>h (congrArg Prod.fst e)),λa ha b hb e=>?_⟩;obtain⟨n,_,rfl⟩:=Ql.mp ha;obtain⟨m,_,rfl⟩:=Ql.mp hb;have:=congrArg Prod.snd e;exact absurd (show ("+" : Str) = "-" from this) (by decide +kernel)
def bC (H:Hp) (a:Addr) (sts:List (V × Key)):Prop:=∃vs,H a=some (.lst vs)/\Paired (λv (s:V × Key)=>∃b,v=.ref b/\H b=some (.tup [s.1,kV s.2])) vs sts
theorem bC.same {H':Hp} {sts:List (V × Key)} (S:ak H H') (h:bC H a sts):bC H' a sts:=by
 obtain⟨vs,h1,h2⟩:=h;exact⟨vs,S _ _ h1,ad (λv s ⟨b,e,q⟩=>⟨b,e,S _ _ q⟩) h2⟩
def wE (F W N:Addr) (H H':Hp):Prop:=∀b o,H b=some o->b≠F->b≠W->b≠N->H' b=some o
def fdK (xs:List Key) (as:A3):List (Key × V):=(xs.zip as).map λp=>(p.1,V.ref p.2)
def knK (xs:List Key):List (Key × V):=xs.map λx=>(x,V.bl true)
variable {xs:List Key}
theorem qg {as:A3} (h:as.length<=xs.length):(fdK xs as).length=as.length:=by
 unfold fdK;rw[Qd,List.length_zip];omega
theorem mQ (xs:List Key) (as:A3):(fdK xs as).map (·.1)=xs.take as.length:=by
 unfold fdK;rw[Xw];show (xs.zip as).map (λp=>p.1)=_
 induction xs generalizing as with
 | nil=>simp
 | cons x xs ih =>
 cases as with
 | nil=>simp
 | cons a as=>simp[ih]
theorem uA {as:A3} {x:Key} (h:xs[as.length]?=some x):fdK xs (as++[a])=fdK xs as++[(x,V.ref a)]:=by
 unfold fdK
 induction xs generalizing as with
 | nil=>simp at h
 | cons y xs ih =>
 cases as with
 | nil=>simp at h;subst h;simp
 | cons b as=>simp at h;simp[ih h]
theorem uB {ys:List Key} {as:A3} (h:as.length<=xs.length) (p:xs <+: ys):fdK ys as=fdK xs as:=by
 obtain⟨t,rfl⟩:=p;unfold fdK
 induction xs generalizing as with
 | nil =>
  have:as=[]:=by simpa using h
  subst this;simp
 | cons y xs ih =>
 cases as with
 | nil=>simp
 | cons b as=>simp at h;simpa using ih h
theorem je {kvs:List (Key × V)} {k:Key}:aV kvs k=none↔k∉kvs.map (·.1):=by
 refine⟨dU,λh=>?_⟩
 cases e:aV kvs k with
 | none=>rfl
 | some v=>exact absurd (oW e) h
theorem pZ {k:Key}:aV (knK xs) k=none↔k∉xs:=by
 rw[je];unfold knK;rw[Xw];show k∉xs.map (λx=>x)↔_;rw[List.map_id']
def nxK (steps:Key->List (V × Key)) (x:Key):List Key:=(steps x).map (·.2)
def j5 (P:Program) (w:World) (K:PySem.W.Frag) (mg:A2) (base:Heap) (k:Nat):Sp:=λvs H Q _=>∃(start:Key) (f:Addr) (l:Lm) (cl:List (Str × Addr)) (c:Addr) (r:V->Hp->VK->Prop) (steps:Key->List (V × Key)) (B:Nat),
 vs=[kV start,.ref f]/\H f=some (gn f l cl c)/\Calls P w K mg base k f r/\B<=100000 /\
 (∀x H1 (Q1:VK),Bf.Reach (nxK steps) start x->ak H H1->(∀a H2,ak H1 H2->bC H2 a (steps x)->Q1 (.ref a) H2)->r (kV x) H1 Q1) /\
 (∀xs:List Key,xs.Nodup->(∀x∈xs,Bf.Reach (nxK steps) start x)->xs.length<=B) /\
 ∀(F:Addr) (as:A3) (n:Nat) (H':Hp),ak H H'->H F=none->(Bf.bfs (nxK steps) start n).length=n->as.length=n->H' F=some (.dK (fdK (Bf.bfs (nxK steps) start n) as)) ->
  (∀(i:Nat) x a,(Bf.bfs (nxK steps) start n)[i]?=some x->as[i]?=some a->bC H' a (steps x))->Q (.ref F) H'
theorem v_ {P:Program} {w:World} {K:PySem.W.Frag} {mg:A2} {base:Heap} {k:Nat} {te:TE} {f c:Addr} {l:Lm} {cl:List (Str × Addr)} {r:V->Hp->VK->Prop} (hi:σ[i]?=some (some (.ref f))) (C:Calls P w K mg base k f r) (hf:H f=some (gn f l cl c))
  (q:te σ H λv H1=>H1 f=some (gn f l cl c)/\r v H1 Q):r_ P w K mg base k i te σ H Q:=⟨f,l,cl,c,r,hi,C,hf,q⟩
section
theorem i6:FnScope ["start", "steps_of", "found", "waiting", "known", "at", "here", "steps", "step"] ["start", "steps_of"] (aw (top 4)):=by fin2
theorem tS {kl:Nat} {f:Addr} {fd:FuncData} (Fu:Fun K "found_from" "found_from" (top 4) f fd) (T:Txt K mg TT):FnOk P w K mg base CX0 (kl+1) f fd ["start", "steps_of"] (j5 P w K mg base kl):=by
 have S:=i6;refine Fu.ok S (by room) (λcdv A outer s H vs Q E hr h=>?_);obtain⟨start,fl,l,cl,c,r,steps,B,rfl,hfl,hC,hB,hst,hfew,k⟩:=h;have hu:=cB hr;refine'⟨?_,?bb,?_⟩
 case bb =>
  walk_at "b";exact aE 2 S.nd tF;exact aE 3 S.nd (a_ (aa (pv 0) ac ae));exact aE 4 S.nd (pM (lX (pv 0) jv pJ) rfl rfl (by simp) (by decide));exact aE 5 S.nd af;refine' fI PassesOwn.never ?_ ?_;rotate_left 2;exact(aB l_ (pv 5) (aF az (by rfl) T.n_len QV (aa (pv 3) ac ae)) (aJ _));walk_at "p";exact aE 6 S.nd (ao aD (pv 3) (pv 5));exact aE 7 S.nd (tI (k:=kl) (i:=1) (hr.mono (by omega)) wU (pv 1) (pv 6));exact(dE hu (pv 2) (pv 6) (pv 7) rfl);walk_at "f";exact(br (pv 7));exact(bD 8 S.nd);walk_at "p";exact(nK (jw hu (ao ax (pv 8) af) (pv 4)));exact(dE hu (pv 4) (ao ax (pv 8) af) jv rfl);exact(bM (bE QB Q4 Q5 bn (pv 3) (aa (ao ax (pv 8) af) ac)));exact(xK (i:=5) S.nd rfl (by z_go) af yg);exact(aW (pv 2))
 x_go;refine s_seq (s_asg ?_);intro F hF;refine aA ?_;ctx_has H F H1 S1 q1 aj hF;lk;refine⟨by simp[sizeLine],λW hW=>?_⟩;ctx_has H1 W H2 S2 q2 aj hW;lk;refine λN hN=>?_;refine⟨_,rfl,?_⟩;refine⟨ag,[(start,.bl true)],rfl,by simp,?_⟩;rw[oX];refine aA ?_;ctx_has H2 N H3 S3 q3 aj hN;lk;have S03:ak H H3:=S1.trans (S2.trans S3);have FW:F≠W:=aq q1 hW;have FN:F≠N:=aq (S2 _ _ q1) hN;have WN:W≠N:=aq q2 hN
 have W0:H W=none:=by
  cases e:H W with
  | none=>rfl
  | some o=>rw[S1 _ _ e]at hW;cases hW
 have N0:H N=none:=by
  cases e:H N with
  | none=>rfl
  | some o=>rw[(S1.trans S2) _ _ e]at hN;cases hN
 have off:∀{Ha Hb:Hp},ak H Ha->wE F W N Ha Hb->ak H Hb:=λsa o b u e=>o b u (sa b u e) (aq e hF) (aq e W0) (aq e N0);let nx:=nxK steps;let bf:=Bf.bfs nx start;have reach:∀n x,x∈bf n->Bf.Reach nx start x:=λn x h=>Bf.cV n x h;have fewB:∀n,(bf n).length<=B:=λn=>hfew _ (Bf.cW n) (reach n);let I13:IvF:=λm σ H'=>∃(n:Nat) (as:A3) (x6 x7 x8:Option V),σ=[some (kV start),some (.ref fl),some (.ref F),some (.ref W),some (.ref N),some (.int (n:Int)),x6,x7,x8]/\m=B+1-n/\n<=(bf n).length/\ak H H'/\H' F=some (.dK (fdK (bf n) as))/\as.length=n/\H' W=some (.lst ((bf n).map kV))/\H' N=some (.dK (knK (bf n)))/\∀(i:Nat) x a,(bf n)[i]?=some x->as[i]?=some a->bC H' a (steps x)
 refine⟨I13,
  ⟨_,0,[],none,none,none,rfl,rfl,QT _,S03,S3 _ _ (S2 _ _ q1),rfl,S3 _ _ q2,q3,λi x a _ e=>nomatch e⟩,?_⟩
 rintro m σ H' ⟨n,as,x6,x7,x8,rfl,rfl,hn,SH,hF',las,hW',hN',hsts⟩;lk;rw[Qd];by_cases cn:n<(bf n).length
 case neg =>
  refine ifF (Qw (by omega)) ?_;lk;have e:(bf n).length=n:=by omega
  exact k F as n H' SH hF e las hF' hsts
 refine ifT (Qu (by omega)) ?_;let I14:IvJ:=λσ' H''=>∃(as:A3) (x6 x7 x8:Option V),σ'=[some (kV start),some (.ref fl),some (.ref F),some (.ref W),some (.ref N),some (.int ((n+1:Nat):Int)),x6,x7,x8]/\n+1<=(bf (n+1)).length/\ak H H''/\H'' F=some (.dK (fdK (bf (n+1)) as))/\as.length=n+1/\H'' W=some (.lst ((bf (n+1)).map kV))/\H'' N=some (.dK (knK (bf (n+1))))/\∀(i:Nat) x a,(bf (n+1))[i]?=some x->as[i]?=some a->bC H'' a (steps x);refine⟨I14,λσ' H'' h=>?_,?_⟩
 ·obtain⟨as,x6,x7,x8,e1,e2,e3,e4,e5,e6,e7,e8⟩:=h;exact⟨B+1-(n+1),by have:=fewB n;omega,n+1,as,x6,x7,x8,e1,rfl,e2,e3,e4,e5,e6,e7,e8⟩
 obtain⟨x,hx⟩:∃x,(bf n)[n]?=some x:=⟨_,Qb cn⟩;have hbs:bf (n+1)=Bf.aZ (bf n) (nx x):=Bf.dC hx;lk;refine bj (v:=kV x) (SqL.of hW') (aY (by rw[Qq,hx];rfl)) ?_;lk;refine v_ rfl hC (SH _ _ hfl) (aP rfl ⟨SH _ _ hfl,hst x H' _ (reach n x (Qh hx)) SH λa H4 S4 st4=>?_⟩);lk;refine fg (aP rfl (aP rfl (aP rfl ?_)));refine⟨F,_,rfl,fX.k (k:=x) (S4 _ _ hF') (by rw[qg (by omega)];have:=fewB n;omega),?_⟩
 have pn:bq (fdK (bf n) as) x (V.ref a)=fdK (bf n) (as++[a]):=by
  rw[uA (by rw[las];exact hx)];refine dY _ (je.mpr ?_);rw[mQ,las];intro hm;obtain⟨i,hi,e⟩:=List.mem_iff_getElem.mp hm;rw[QN]at hi;rw[List.getElem_take]at e;have e2:=(Qc.mp hx).2;have:=(List.getElem_inj (Bf.cW (nx:=nx) (s:=start) n)).mp (e.trans e2.symm);omega
 rw[pn]
 -- what the steps' list is not
 obtain⟨vs,ha,pr⟩:=id st4
 have neW:∀{Hx:Hp} {ws:List Key},Hx W=some (.lst (ws.map kV))->ws≠[]->∀{b:Addr} {sts:List (V × Key)},bC Hx b sts->b≠W:=λ{Hx ws} hw ne {b sts} ⟨us,hb,pu⟩ z=>by
  rw[z,hw]at hb;cases hb
  cases ws with
  | nil=>exact ne rfl
  | cons y ws =>
  cases pu with
  | cons h _ =>
  obtain⟨c,e,_⟩:=h;cases y <;> cases e
 have neD:∀{Hx:Hp} {D:Addr} {kvs:List (Key × V)},Hx D=some (.dK kvs)->∀{b:Addr} {sts:List (V × Key)},bC Hx b sts->b≠D:=λ{Hx D kvs} hd {b sts} ⟨us,hb,_⟩ z=>by
  rw[z,hd]at hb;cases hb
 have keepS:∀{Ha Hb:Hp} {ws:List Key} {k1 k2:List (Key × V)},Ha W=some (.lst (ws.map kV))->ws≠[]->Ha F=some (.dK k1)->Ha N=some (.dK k2)->wE F W N Ha Hb->∀{b:Addr} {sts:List (V × Key)},bC Ha b sts->bC Hb b sts:=λ{Ha Hb ws k1 k2} hw ne h1 h2 o {b sts} st=>by
  have n1:=neW hw ne st;have n2:=neD h1 st;have n3:=neD h2 st;obtain⟨us,hb,pu⟩:=st;refine⟨us,o b _ hb n2 n1 n3,ad (λv s ⟨c,e,q⟩=>⟨c,e,o c _ q (λz=>?_) (λz=>?_) λz=>?_⟩) pu⟩
  ·rw[z,h1]at q;cases q
  ·rw[z,hw]at q;cases q
  rw[z,h2]at q;cases q
 have bne:bf n≠[]:=λz=>by rw[z]at cn;simp at cn
 have hF4:=S4 _ _ hF';have hW4:=S4 _ _ hW';have hN4:=S4 _ _ hN';have off4:wE F W N H4 (upd H4 F (.dK (fdK (bf n) (as++[a])))):=λb o e h1 _ _=>by rw[ah h1];exact e
 have hF5:upd H4 F (.dK (fdK (bf n) (as++[a]))) F=some (.dK (fdK (bf n) (as++[a]))):=ag;have hW5:upd H4 F (.dK (fdK (bf n) (as++[a]))) W=some (.lst ((bf n).map kV)):=by rw[ah FW.symm];exact hW4
 have hN5:upd H4 F (.dK (fdK (bf n) (as++[a]))) N=some (.dK (knK (bf n))):=by rw[ah FN.symm];exact hN4
 have st5:=keepS hW4 bne hF4 hN4 off4 st4
 have sts5:∀(i:Nat) y b,(bf n)[i]?=some y->(as++[a])[i]?=some b->bC (upd H4 F (.dK (fdK (bf n) (as++[a])))) b (steps y):=λi y b e1 e2=>by
  by_cases ci:i<as.length
  ·rw[QG ci]at e2;exact keepS hW4 bne hF4 hN4 off4 ((hsts i y b e1 e2).same S4)
  rw[QJ (by omega)]at e2
  have:i=n:=by
   have:=(Qc.mp e2).1;simp at this;omega
  subst this;rw[hx]at e1;cases e1;rw[las,Nat.sub_self]at e2;cases e2;exact st5
 have SH5:ak H (upd H4 F (.dK (fdK (bf n) (as++[a])))):=off (SH.trans S4) off4;generalize upd H4 F (.dK (fdK (bf n) (as++[a])))=H5 at *;obtain⟨vs5,ha5,pr5⟩:=id st5;refine s_seq (s_for (s_list (aP rfl ⟨a,rfl,⟨_,SqL.of ha5⟩,?_⟩)));let I15:IvF:=λi σ' H'=>∃x8,σ'=[some (kV start),some (.ref fl),some (.ref F),some (.ref W),some (.ref N),some (.int (n:Int)),some (kV x),some (.ref a),x8]/\wE F W N H5 H'/\H' F=some (.dK (fdK (bf n) (as++[a])))/\H' W=some (.lst ((Bf.aZ (bf n) ((nx x).take i)).map kV))/\H' N=some (.dK (knK (Bf.aZ (bf n) ((nx x).take i))));refine bY (xs:=vs5) I15 ⟨_,rfl,λb o e _ _ _=>e,hF5,hW5,hN5⟩ (λi σ' H' _ pv=>?_) (λi v σ' H' hv pv=>?_) (λσ' H' pv=>?_)
 ·obtain⟨_,_,o,_⟩:=pv;exact SqL.of (o a _ ha5 (neD hF5 st5) (neW hW5 bne st5) (neD hN5 st5))
 ·obtain⟨x8,rfl,o,e1,e2,e3⟩:=pv;obtain⟨⟨nm,y⟩,hy,b,rfl,hb⟩:=paired_get pr5 hv;have hb':H' b=some (.tup [nm,kV y]):=o b _ hb (λz=>by rw[z,hF5]at hb;cases hb) (λz=>by rw[z,hW5]at hb;cases hb) (λz=>by rw[z,hN5]at hb;cases hb)
  have hny:(nx x)[i]?=some y:=by
   show ((steps x).map (·.2))[i]?=_;rw[Qq,hy];rfl
  have ext:Bf.aZ (bf n) ((nx x).take (i+1))=Bf.aZ (Bf.aZ (bf n) ((nx x).take i)) [y]:=by
   rw[XI,hny,Bf.ja];rfl
  have lenN:(Bf.aZ (bf n) ((nx x).take i)).length<=B:=hfew _ (Bf.dM _ _ (Bf.cW n)) λz hz=>by
   rcases(Bf.dN _ _ _).mp hz with h|h
   ·exact reach n z h
   exact .step (reach n x (Qh hx)) (List.mem_of_mem_take h)
  lk;refine mN (i_op (aP rfl (i_c (i_ixT hb' rfl (aP rfl ?_)))));refine⟨N,_,rfl,cN.k (k:=y) e3,_,rfl,?_⟩;by_cases cy:y∈Bf.aZ (bf n) ((nx x).take i)
  ·rw[Bf.oS cy]at ext;refine ifF ?_ ?_
   ·cases e:aV (knK (Bf.aZ (bf n) ((nx x).take i))) y with
    | none=>exact absurd cy (pZ.mp e)
    | some v=>rfl
   lk;refine⟨_,rfl,o,e1,?_,?_⟩
   ·rw[ext];exact e2
   rw[ext];exact e3
  rw[Bf.oR cy]at ext;have nn:=pZ.mpr cy;refine ifT (by rw[nn];rfl) ?_;lk;refine fg (i_c (aP rfl (i_op (aP rfl (i_c (i_ixT hb' rfl ?_))))));refine⟨N,_,rfl,fX.k (k:=y) e3 (by unfold knK;rw[Qd];omega),?_⟩;have e2':upd H' N (.dK (bq (knK (Bf.aZ (bf n) ((nx x).take i))) y (.bl true))) W=some (.lst ((Bf.aZ (bf n) ((nx x).take i)).map kV)):=by rw[ah WN];exact e2
  have hb'':upd H' N (.dK (bq (knK (Bf.aZ (bf n) ((nx x).take i))) y (.bl true))) b=some (.tup [nm,kV y]):=by rw[ah (λz=>by rw[z,e3]at hb';cases hb')];exact hb'
  refine s_drop (i_bm (aP rfl ⟨i_tyL e2',?_⟩));refine i_cons (i_op (aP rfl (i_c (i_ixT hb'' rfl (bo (dQ e2' (by rw[Qd];omega) ?_))))));refine⟨_,rfl,λc u e h1 h2 h3=>by rw[ah h2,ah h3];exact o c u e h1 h2 h3,by rw[ah FW,ah FN];exact e1,?_,?_⟩
  ·rw[ag,ext,QZ];rfl
  rw[ah WN.symm,ag,dY _ nn,ext];unfold knK;rw[QZ];rfl
 obtain⟨x8,rfl,o,e1,e2,e3⟩:=pv
 have lv:vs5.length=(nx x).length:=by
  show _=((steps x).map (·.2)).length;rw[Qd];exact am pr5
 rw[lv,Q8 (Qg _),<-hbs]at e2 e3;refine⟨_,rfl,?_⟩;refine i_c ⟨_,_,rfl,rfl,?_⟩;have pre:bf n <+: bf (n+1):=Bf.m5 n
 have l1:n+1<=(bf (n+1)).length:=by
  have:=pre.length_le;omega
 refine⟨as++[a],_,_,_,by rw[show ((n+1:Nat):Int)=(n:Int)+1 from rfl];rfl,l1,off SH5 o,?_,by rw[Qi,las];rfl,e2,e3,λi y b h1 h2=>?_⟩
 ·rw[uB (by rw[Qi,las];simp;omega) pre];exact e1
 have hi:i<n+1:=by
  have:=(Qc.mp h2).1;rw[Qi,las]at this;simpa using this
 exact keepS hW5 bne hF5 hN5 o (sts5 i y b (Bf.hX pre (by omega) h1) h2)
end
structure Sh where
 ins:List Str
 outs:List Str
 z:Str
 nodes:List (List (Str × Nat))
def Sh.ws (s:Sh):List Str:=s.ins++s.outs
def Sh.node (s:Sh) (i:Nat):List (Str × Nat):=s.nodes.getD i []
def Sh.nx (s:Sh) (i:Nat):List Nat:=(s.node i).map (·.2)
abbrev Sh.R (s:Sh):Nat->Prop:=Bf.Reach s.nx 0
structure ShOk (s:Sh):Prop where
 nd:s.ws.Nodup
 w1:1<=s.ws.length
 w11:s.ws.length<=11
 st:StOk s.ws.length s.z
 n1:1<=s.nodes.length
 n100:s.nodes.length<=100
 names:∀node∈s.nodes,∀p∈node,p.1∈s.ws
 tos:∀node∈s.nodes,∀p∈node,p.2<s.nodes.length
 few:∀node∈s.nodes,node.length<=100
def Lab (s:Sh) (lam:Nat->Str):Prop:=lam 0=s.z/\∀i,s.R i->∀p∈s.node i,lam p.2=cA (lam i) (s.ws.idxOf p.1)
def d8 (node:List (Str × Nat)):List (V × Key):=node.map λp=>(V.str p.1,Sum.inl (p.2:Int))
structure ShAt (H:Hp) (a li lo ln:Addr) (nas:A3) (s:Sh):Prop where
 ha:H a=some (.tup [.ref li,.ref lo,.str s.z,.ref ln])
 hi:H li=some (.lst (s.ins.map V.str))
 ho:H lo=some (.lst (s.outs.map V.str))
 hn:H ln=some (.lst (nas.map V.ref))
 nodes:Paired (λna node=>bC H na (d8 node)) nas s.nodes
variable {s:Sh}
theorem ShAt.mono (hl:∀b xs,H b=some (.lst xs)->H' b=some (.lst xs)) (ht:∀b xs,H b=some (.tup xs)->H' b=some (.tup xs)) (h:ShAt H a li lo ln nas s):ShAt H' a li lo ln nas s :=
 ⟨ht _ _ h.ha,hl _ _ h.hi,hl _ _ h.ho,hl _ _ h.hn,ad (λna node ⟨vs,h1,h2⟩=>⟨vs,hl _ _ h1,ad (λv st ⟨b,e,q⟩=>⟨b,e,ht _ _ q⟩) h2⟩) h.nodes⟩
theorem ShAt.same {H':Hp} (S:ak H H') (h:ShAt H a li lo ln nas s):ShAt H' a li lo ln nas s:=h.mono (λb xs e=>S b _ e) (λb xs e=>S b _ e)
theorem Sh.node_of {node:List (Str × Nat)} (h:s.nodes[i]?=some node):s.node i=node:=by
 unfold Sh.node;rw[Qo,h];rfl
theorem Sh.node_mem (h:i<s.nodes.length):s.node i∈s.nodes:=by
 unfold Sh.node;rw[Qo,Qb h];exact QW h
theorem Sh.R_lt (ok:ShOk s) (r:s.R i):i<s.nodes.length:=by
 induction r with
 | start=>exact ok.n1
 | @step a b _ hb ih =>
 obtain⟨p,hp,rfl⟩:=Ql.mp hb;exact ok.tos _ (Sh.node_mem ih) p hp
def jk:Sp:=λvs H Q _=>∃(a li lo ln:Addr) (nas:A3) (s:Sh) (row nm:Str),vs=[.ref a,.str row,.str nm]/\ShAt H a li lo ln nas s/\ShOk s/\StOk s.ws.length row/\nm∈s.ws/\∀H',ak H H'->Q (.str (cA row (s.ws.idxOf nm))) H'
section
theorem nR {f:Addr} {fd:FuncData} (Fu:Fun K "row_behind" "row_behind" (top 7) f fd) (T:Txt K mg TT) (f_turned_at:Fn P w K mg base "turned_at" ["standing", "place"] 1 gN):FnOk P w K mg base CX0 2 f fd ["sheet", "row", "name"] jk:=by
 have S:=eQ;refine Fu.ok S (by room) (λcdv A outer s H vs Q E hr h=>?_);obtain⟨a,li,lo,ln,nas,sh,row,nm,rfl,at_,ok,st,hnm,k⟩:=h;refine⟨_,(pss_one (aW (aH f_turned_at hr (aa (pv 1) (aa (bE QB Xb Xc iu (aO fj (ao ax (pv 0) af) (ao ax (pv 0) af)) (aa (pv 2) ac ae)) ac aM) ae)))),?_⟩;x_go;have lw:(sh.ins.map V.str).length+(sh.outs.map V.str).length=sh.ws.length:=by rw[Qd,Qd];unfold Sh.ws;rw[Qi]
 have ha:=at_.ha;lk;refine iE at_.hi at_.ho (by rw[lw];have:=ok.w11;omega) λp hp=>?_;rw[<-QZ];show tyV K "list" (.ref p) _/\_;refine⟨i_tyL ag,?_⟩;lk;refine⟨p,sh.ws,nm,sh.ws.idxOf nm,rfl,rfl,ag,gg hnm,gf,by have:=ok.w11;omega,?_⟩;lk;exact⟨row,_,_,rfl,st,QA hnm,ok.w11,k _ (ar hp)⟩
end
noncomputable def ba:Lm:=match bV (top 8) with
 | _::.Assign _ (.Call _ [_,.Lambda p b sc pos] _ _) _::_=>⟨("rows_found" ++ ".<locals>.") ++ "<lambda>", p,b,sc,pos⟩
 | _=>⟨"", { posonlyargs:=[],args:=[],vararg:=none,kwonlyargs:=[],kw_defaults:=[],kwarg:=none,defaults:=[] },.Constant .none 0 ⟨0,0,0,0⟩,aw (top 0),⟨0,0,0,0⟩⟩
theorem za {x:Str} (h:([(x,NameKind.local),(y,NameKind.free)]:List (Str × NameKind)).lookup z=some .free):z=y:=by
 rw[Q6]at h;by_cases e:(z==x)=true
 ·rw[e]at h;cases h
 have e:(z==x)=false:=by simpa using e
 rw[e]at h;simp only at h;rw[Q6]at h;by_cases e2:(z==y)=true
 ·exact eq_of_beq e2
 have e2:(z==y)=false:=by simpa using e2
 rw[e2]at h;cases h
theorem t9:LmScope "node" "sheet" ba.scope:=⟨rfl,rfl,rfl,rfl,rfl,by decide,by decide +kernel,λz h=>za h⟩
structure Tk (T:Addr) (H H':Hp):Prop where
 old:∀b o,H b=some o->b≠T->H' b=some o
 tab:cz T ba H'
theorem xr {l:Lm} (t:cz T l H):∃ps,H T=some (.tbl ps):=by rcases t with e|⟨c,e,_⟩ <;> exact⟨_,e⟩
theorem di {l:Lm} {o:HO} (t:cz T l H) (h:H b=some o) (n:∀ps,o≠.tbl ps):b≠T:=λz=>by
 obtain⟨ps,e⟩:=xr t;rw[z,e]at h;exact n ps (QC h).symm
theorem bF {l:Lm} (t:cz T l H) (S:ak H H'):cz T l H':=by
 rcases t with e|⟨c,e,q⟩
 ·exact .inl (S _ _ e)
 exact .inr ⟨c,S _ _ e,S _ _ q⟩
theorem Tk.lst (t:cz T ba H) (k:Tk T H H'):∀b xs,H b=some (.lst xs)->H' b=some (.lst xs):=λb xs e=>k.old b _ e (di t e λ_ z=>nomatch z)
theorem Tk.tup (t:cz T ba H) (k:Tk T H H'):∀b xs,H b=some (.tup xs)->H' b=some (.tup xs):=λb xs e=>k.old b _ e (di t e λ_ z=>nomatch z)
theorem Tk.dK (t:cz T ba H) (k:Tk T H H'):∀b xs,H b=some (.dK xs)->H' b=some (.dK xs):=λb xs e=>k.old b _ e (di t e λ_ z=>nomatch z)
theorem Tk.of (t:cz T ba H) (S:ak H H'):Tk T H H':=⟨λb o e _=>S b o e,bF t S⟩
theorem Tk.trans (a:Tk T H H1) (b:Tk T H1 H2):Tk T H H2:=⟨λc o e n=>b.old c o (a.old c o e n) n,b.tab⟩
def stK (s:Sh):Key->List (V × Key)
 | .inl i=>d8 (s.node i.toNat)
 | .inr _=>[]
theorem gC (s:Sh) (i:Nat):stK s (Sum.inl (i:Int))=d8 (s.node i):=by show d8 (s.node (i:Int).toNat)=_;rw[Q2]
theorem kD {y:Key}:y∈nxK (stK s) (Sum.inl (i:Int))↔∃p∈s.node i,y=Sum.inl (p.2:Int):=by
 unfold nxK;rw[gC];unfold d8;rw[Xw]
 constructor
 ·intro h;obtain⟨p,hp,e⟩:=Ql.mp h;exact⟨p,hp,e.symm⟩
 rintro⟨p,hp,rfl⟩;exact Ql.mpr ⟨p,hp,rfl⟩
theorem f7 {x:Key} (r:Bf.Reach (nxK (stK s)) (Sum.inl 0) x):∃i:Nat,x=Sum.inl (i:Int)/\s.R i:=by
 induction r with
 | start=>exact⟨0,rfl,.start⟩
 | @step a b _ hb ih =>
 obtain⟨i,rfl,ri⟩:=ih;obtain⟨p,hp,rfl⟩:=kD.mp hb;exact⟨p.2,rfl,.step ri (Ql.mpr ⟨p,hp,rfl⟩)⟩
theorem re (r:s.R i):Bf.Reach (nxK (stK s)) (Sum.inl 0) (Sum.inl (i:Int)):=by
 induction r with
 | start=>exact .start
 | @step a b _ hb ih =>
 obtain⟨p,hp,rfl⟩:=Ql.mp hb;exact .step ih (kD.mpr ⟨p,hp,rfl⟩)
theorem mH (ok:ShOk s) (nd:xs.Nodup) (h:∀x∈xs,∃i:Nat,x=Sum.inl (i:Int)/\s.R i):xs.length<=s.nodes.length:=by
 have:=Bf.pigeon xs ((List.range s.nodes.length).map λ(i:Nat)=>(Sum.inl (i:Int):Key)) nd λx hx=>by
  obtain⟨i,rfl,ri⟩:=h x hx;exact Ql.mpr ⟨i,QR.mpr (Sh.R_lt ok ri),rfl⟩
 rwa [Qd,Q3]at this
structure RInv (s:Sh) (kvs:List (Key × V)):Prop where
 sound:∀k v,aV kvs k=some v->∃(i:Nat) (y:Str),k=Sum.inl (i:Int)/\v=.str y/\s.R i/\StOk s.ws.length y/\∀lam,Lab s lam->lam i=y
 zero:aV kvs (Sum.inl 0)=some (.str s.z)
 nd:(kvs.map (·.1)).Nodup
theorem RInv.at {kvs:List (Key × V)} (h:RInv s kvs) (n:aV kvs (Sum.inl (i:Int))≠none):∃y,aV kvs (Sum.inl (i:Int))=some (.str y)/\StOk s.ws.length y/\∀lam,Lab s lam->lam i=y:=by
 cases e:aV kvs (Sum.inl (i:Int)) with
 | none=>exact absurd e n
 | some v =>
 obtain⟨j,y,ej,rfl,_,st,l⟩:=h.sound _ _ e;cases ej;exact⟨y,rfl,st,l⟩
theorem RInv.first (ok:ShOk s):RInv s [(Sum.inl 0,.str s.z)] where
 sound:=λk v e=>by
  by_cases c:(Sum.inl 0:Key)=k
  ·rw[bv (p:=(Sum.inl 0,V.str s.z)) c]at e;cases e;subst c;exact⟨0,s.z,rfl,rfl,.start,ok.st,λlam l=>l.1⟩
  rw[bx (p:=(Sum.inl 0,V.str s.z)) c]at e;cases e
 zero:=bv (p:=(Sum.inl 0,V.str s.z)) rfl
 nd:=by simp
theorem RInv.few {kvs:List (Key × V)} (ok:ShOk s) (h:RInv s kvs):kvs.length<=s.nodes.length:=by
 have:=mH ok h.nd λx hx=>by
  cases e:aV kvs x with
  | none=>exact absurd hx (dU e)
  | some v =>
  obtain⟨i,y,rfl,_,r,_⟩:=h.sound _ _ e;exact⟨i,rfl,r⟩
 rwa [Qd]at this
theorem RInv.put {kvs:List (Key × V)} (ok:ShOk s) (h:RInv s kvs) {p:Str × Nat} (r:s.R i) (hp:p∈s.node i) (hy:aV kvs (Sum.inl (i:Int))=some (.str y)) (n:aV kvs (Sum.inl (p.2:Int))=none):RInv s (bq kvs (Sum.inl (p.2:Int)) (.str (cA y (s.ws.idxOf p.1)))) where
 sound:=λk v e=>by
  rw[cX]at e;by_cases c:k=Sum.inl (p.2:Int)
  ·rw[Qs c]at e;cases e;obtain⟨j,y',ej,ey,_,st,l⟩:=h.sound _ _ hy;cases ej;cases ey;exact⟨p.2,_,c,rfl,.step r (Ql.mpr ⟨p,hp,rfl⟩),cP st (QA (ok.names _ (Sh.node_mem (Sh.R_lt ok r)) p hp)),λlam L=>by rw[L.2 i r p hp,l lam L]⟩
  rw[Qn c]at e;exact h.sound k v e
 zero:=by
  rw[cX];by_cases c:(Sum.inl 0:Key)=Sum.inl (p.2:Int)
  ·rw[<-c,h.zero]at n;cases n
  rw[Qn c];exact h.zero
 nd:=by
  rw[dY _ n,QZ,XC];refine⟨h.nd,by simp,λa ha b hb=>?_⟩;have:b=Sum.inl (p.2:Int):=by simpa using hb
  subst this;intro e;subst e;exact dU n ha
theorem jp {kvs:List (Key × V)} {k j:Key} (h:aV kvs j≠none):aV (bq kvs k v) j≠none:=by
 rw[cX]
 split
 ·exact λz=>nomatch z
 exact h
structure RowsOk (s:Sh) (kvs:List (Key × V)):Prop where
 inv:RInv s kvs
 all:∀i,s.R i->aV kvs (Sum.inl (i:Int))≠none
def nE (TL:Addr):Sp:=λvs H Q _=>∃(a li lo ln:Addr) (nas:A3) (s:Sh),vs=[.ref a]/\ShAt H a li lo ln nas s/\ShOk s/\cz TL ba H/\∀(R:Addr) (kvs:List (Key × V)) H',Tk TL H H'->H R=none->H' R=some (.dK kvs)->RowsOk s kvs->Q (.ref R) H'
theorem lD {kvs:List (Key × V)} (nd:(kvs.map (·.1)).Nodup):∀{i:Nat} {k:Key} {v:V},kvs[i]?=some (k,v)->aV kvs k=some v:=by
 induction kvs with
 | nil=>intro i k v e;simp at e
 | cons p r ih =>
 intro i k v e;rw[Qx,QS]at nd
 cases i with
 | zero =>
  simp at e;subst e;exact bv (p:=(k,v)) rfl
 | succ i =>
 simp at e;rw[bx (λz:p.1=k=>nd.1 (by rw[z];exact Ql.mpr ⟨(k,v),Qh e,rfl⟩))];exact ih nd.2 e
theorem rR {c:Addr} {o:HO} (h:H c=some o):upd (bN H c) c o=H:=by
 funext b;by_cases e:b=c
 ·subst e;rw[ag,h]
 rw[ah e,bt e]
section
theorem oK {f c cell:Addr}:Calls P w K mg base 1 f (yV f ba "sheet" cell c (tOp (sV K) (tOp (sT K) (e_ 1) (tC (.int 3))) (e_ 0))) :=
 rG (k:=0) t9 (λpm ctv u=>rfl) λA outer s H hr=>ao aD (ao ax (pv 1) af) (pv 0) (λ_ _=>rfl)
theorem i3:FnScope ["sheet", "rows", "found", "node", "name", "to"] ["sheet"] (aw (top 8)):=by fin2
theorem vD {TL cc:Addr} {f:Addr} {fd:FuncData} (Fu:FunC K "rows_found" "rows_found" (top 8) f fd cc) (T:Txt K mg TT) (CT:PySem.W.CodeHd base cc TL) (BM:eY base mg) (f_found_from:Fn P w K mg base "found_from" ["start", "steps_of"] 2 (j5 P w K mg base 1)) (f_row_behind:Fn P w K mg base "row_behind" ["sheet", "row", "name"] 2 jk) :
  FnOk P w K mg base CX0 3 f fd ["sheet"] (nE TL):=by
 have S:=i3;refine Fu.ok S (λvs H Q E h=>?_) (λA outer s H vs Q E hr h=>?_)
 ·obtain⟨a,li,lo,ln,nas,sh,rfl,_⟩:=h;rfl
 obtain⟨a,li,lo,ln,nas,sh,rfl,at_,ok,tb,k⟩:=h;have hu:=cB hr;have HCL:PySem.closureFor ba.scope (PyProof.Rows.envOfC "rows_found" (aw (top 8)) s.heap.objs.size f (.ref cc))=pure [(("sheet" : Str),(s.heap.objs.size+1:Addr))]:=by rfl
 refine'⟨?_,?bb,?_⟩
 case bb =>
  walk_at "b";exact aE 1 S.nd (pM (lX af (ao ax (pv 0) af) pJ) rfl rfl (by simp) (by decide));exact aE 2 S.nd (xO (i:=0) f_found_from (hr.mono (by first|decide|omega)) (by rfl) (aa af (aa (xM (T:=TL) (cl:=[(("sheet" : Str),(s.heap.objs.size+1:Addr))]) rfl CT BM HCL) ac) ay) rfl rfl (Or.inr (Or.inl rfl)) rfl rfl);refine' xJ ?_;rotate_left 1;walk_at "f";exact(tq (pv 2));exact(bD 3 S.nd);walk_at "p";walk_at "f";exact(br (eJ hu (pv 2) (pv 3)));exact(fh rfl (bg (bD 4 S.nd) (bg (bD 5 S.nd) cS)));walk_at "p";exact(bM (tD (pv 1) (pv 5) (aH f_row_behind hr (aa (pv 0) (aa (eJ hu (pv 1) (pv 3)) (aa (pv 4) ac ae)) ae)) ⟨rfl,rfl,rfl,rfl⟩));exact(aW (pv 1))
 x_go;generalize hcell:s.heap.objs.size+1=cell;refine s_seq (s_asg ?_);refine λR hR=>?_;have aR:a≠R:=aq at_.ha hR;have haR:upd H R (.dK []) a=some (.tup [.ref li,.ref lo,.str sh.z,.ref ln]):=by rw[ah aR];exact at_.ha
 show tOp (sT K) (e_ 0) (tC (V.int 2)) [some (.ref a),none,none,none,none,none] (upd H R (.dK [])) _;refine i_op (aP rfl (i_c (i_ixT haR rfl ?_)));refine⟨ag,[(Sum.inl 0,.str sh.z)],rfl,by simp,?_⟩;rw[oX];refine aA ?_;ctx_has H R H1 S1 q1 aj hR;have q1:H1 R=some (.dK [(Sum.inl 0,.str sh.z)]):=q1;have tb1:cz TL ba H1:=bF tb S1;kt_k;with_reducible refine s_asg ?_
 show eO (tC (V.int 0)) (eO (yH TL ba [("sheet", cell)]) j3) _ _ _;refine i_cons (i_c (i_cons ⟨tb1,λfl c H2 md=>bo ⟨_,rfl,λo uy hd ru hc=>?_⟩⟩));have md:Made TL ba [("sheet", cell)] H1 fl c H2:=md;obtain rfl:uy=Value.ref a:=ru
 -- at the call
 have at2:ShAt H2 a li lo ln nas sh:=(at_.same S1).mono (λb xs e=>md.old b _ e (di tb1 e λ_ z=>nomatch z)) (λb xs e=>md.old b _ e (di tb1 e λ_ z=>nomatch z));have S2c:ak H2 (upd H2 cell (c_ o)):=ar hc;have hf2:upd H2 cell (c_ o) fl=some (gn fl ba [("sheet", cell)] c):=S2c _ _ md.fn;have hcc2:upd H2 cell (c_ o) c=some (gu c ba.qual):=S2c _ _ md.code;have hcl2:upd H2 cell (c_ o) cell=some (c_ o):=ag;have at2c:ShAt (upd H2 cell (c_ o)) a li lo ln nas sh:=at2.same S2c;have k12:∀b u,H b=some u->b≠TL->upd H2 cell (c_ o) b=some u:=λb u e n=>S2c _ _ (md.old b u (S1 _ _ e) n);have tb2:cz TL ba (upd H2 cell (c_ o)):=.inr ⟨c,S2c _ _ md.tab,hcc2⟩;have hR2:upd H2 cell (c_ o) R=some (.dK [(Sum.inl 0,.str sh.z)]):=S2c _ _ (md.old _ _ q1 (di tb1 q1 λ_ z=>nomatch z));have nocell:∀{b u},H2 b=some u->b≠cell:=λe z=>by rw[z,hc]at e;cases e
 have H2R:∀{b u},H b=some u->b≠TL->b≠cell:=λ{b u} e n=>nocell (md.old b u (S1 _ _ e) n);have acell:a≠cell:=nocell at2.ha;have lncell:ln≠cell:=nocell at2.hn;have Rcell:R≠cell:=nocell (md.old _ _ q1 (di tb1 q1 λ_ z=>nomatch z));have Tcell:TL≠cell:=nocell md.tab;have ccell:c≠cell:=nocell md.code;generalize upd H2 cell (c_ o)=H2c at *;refine⟨Sum.inl 0,fl,ba,[("sheet", cell)],c,_,stK sh,sh.nodes.length,rfl,hf2,oK (c:=c) (cell:=cell),by have:=ok.n100;omega,λx H4 Q1 rx S4 q4=>?_,λxs nd h=>mH ok nd λx hx=>f7 (h x hx),λF as n H3 S3 hF ln3 las hF3 sts=>?_⟩
 ·obtain⟨i,rfl,ri⟩:=f7 rx;have hi:=Sh.R_lt ok ri;have at4:=at2c.same S4;have hcl4:=S4 _ _ hcl2;obtain⟨na,hna,hst⟩:=aX at4.nodes (Qb hi);refine⟨o,Value.ref a,.ref a,S4 _ _ hf2,S4 _ _ hcc2,hcl4,hd,rfl,?_⟩;have ha4:bN H4 cell a=some (.tup [.ref li,.ref lo,.str sh.z,.ref ln]):=by rw[bt acell];exact at4.ha
  have hn4:bN H4 cell ln=some (.lst (nas.map V.ref)):=by rw[bt lncell];exact at4.hn
  refine i_op (i_op (aP rfl (i_c (i_ixT ha4 rfl (aP rfl ?_)))));refine(bj (v:=.ref na) (SqL.of hn4) (aY (by rw[Qq,hna];rfl)) ?_:sV K _ (.int (i:Int)) _ _);rw[rR hcl4];refine q4 na H4 (λ_ _ e=>e) ?_;rw[gC,Sh.node_of (Qb hi)];exact hst
 show dv 2 (V.ref F) _ (bN H3 cell) _;have hcl3:=S3 _ _ hcl2;have d3:∀{b u},H3 b=some u->b≠cell->bN H3 cell b=some u:=λe n=>by rw[bt n];exact e
 have Fcell:F≠cell:=λz=>by rw[z,hcl2]at hF;cases hF
 have FR:F≠R:=λz=>by rw[z,hR2]at hF;cases hF
 have tb3:cz TL ba (bN H3 cell):=by
  rcases tb2 with e|⟨c',e,q⟩
  ·exact .inl (d3 (S3 _ _ e) Tcell)
  have c'cell:c'≠cell:=λz=>by rw[z,hcl2]at q;cases q
  exact .inr ⟨c',d3 (S3 _ _ e) Tcell,d3 (S3 _ _ q) c'cell⟩
 have k13:∀b u,H b=some u->b≠TL->bN H3 cell b=some u/\b≠F:=λb u e n=>⟨d3 (S3 _ _ (k12 b u e n)) (H2R e n),λz=>by rw[<-z,k12 b u e n]at hF;cases hF⟩;have hF3d:bN H3 cell F=some (.dK (fdK (Bf.bfs (nxK (stK sh)) (Sum.inl 0) n) as)):=d3 hF3 Fcell;have hR3:bN H3 cell R=some (.dK [(Sum.inl 0,.str sh.z)]):=d3 (S3 _ _ hR2) Rcell;have at3:ShAt (bN H3 cell) a li lo ln nas sh:=at_.mono (λb xs e=>(k13 b _ e (di tb e λ_ z=>nomatch z)).1) (λb xs e=>(k13 b _ e (di tb e λ_ z=>nomatch z)).1)
 have sts3:∀(i:Nat) x b,(Bf.bfs (nxK (stK sh)) (Sum.inl 0) n)[i]?=some x->as[i]?=some b->bC (bN H3 cell) b (stK sh x):=λi x b e1 e2=>by
  obtain⟨vs,h1,h2⟩:=sts i x b e1 e2;refine⟨vs,d3 h1 (λz=>by rw[z,hcl3]at h1;cases h1),ad (λv st ⟨b,e,q⟩=>⟨b,e,d3 q (λz=>by rw[z,hcl3]at q;cases q)⟩) h2⟩
 have HT3:Tk TL H (bN H3 cell):=⟨λb u e n=>(k13 b u e n).1,tb3⟩;clear d3;generalize bN H3 cell=H3d at *;generalize hO:Bf.bfs (nxK (stK sh)) (Sum.inl 0) n=order at *;refine aA ?_;kt_k;refine(yR (a:=F) (u:=.dK (fdK order as)) (.inl hF3d) trivial λob=>?_);have h4:∀b,b≠F->upd H3d F (.frz ob (.dK (fdK order as))) b=H3d b:=λb n=>ah n;have hF4:upd H3d F (.frz ob (.dK (fdK order as))) F=some (.frz ob (.dK (fdK order as))):=ag;generalize upd H3d F (.frz ob (.dK (fdK order as)))=H4 at *;have l4:∀b xs,H3d b=some (.lst xs)->H4 b=some (.lst xs):=λb xs e=>by rw[h4 b (λz=>by rw[z,hF3d]at e;cases e)];exact e
 have t4:∀b xs,H3d b=some (.tup xs)->H4 b=some (.tup xs):=λb xs e=>by rw[h4 b (λz=>by rw[z,hF3d]at e;cases e)];exact e
 have at4:ShAt H4 a li lo ln nas sh:=at3.mono l4 t4;have hR4:H4 R=some (.dK [(Sum.inl 0,.str sh.z)]):=by rw[h4 R FR.symm];exact hR3
 have sts4:∀(i:Nat) x b,order[i]?=some x->as[i]?=some b->bC H4 b (stK sh x):=λi x b e1 e2=>by
  obtain⟨vs,h1,h2⟩:=sts3 i x b e1 e2;exact⟨vs,l4 _ _ h1,ad (λv st ⟨b,e,q⟩=>⟨b,e,t4 _ _ q⟩) h2⟩
 have oreach:∀x∈order,∃i:Nat,x=Sum.inl (i:Int)/\sh.R i:=λx hx=>f7 (Bf.cV n x (hO▸hx));have lfd:(fdK order as).length=n:=by rw[qg (by omega)];exact las
 -- each has a row when it is gone along
 have has:∀(kvs:List (Key × V)) (j:Nat),RInv sh kvs->(∀j',j'<j->∀x,order[j']?=some x->∀y∈nxK (stK sh) x,aV kvs y≠none)->∀x,order[j]?=some x->aV kvs x≠none:=λkvs j inv hp x hx=>by
  cases j with
  | zero =>
   have:=Bf.mZ (nx:=nxK (stK sh)) (s:=(Sum.inl 0:Key)) n;rw[hO,hx]at this;cases this;rw[inv.zero];exact λz=>nomatch z
  | succ j =>
  obtain⟨i,y,h1,_,h3,h4⟩:=Bf.iR n (j+1) x (by omega) (by rw[hO];exact hx);rw[hO]at h3;exact hp i h1 y h3 x h4
 refine s_for (vi (aP rfl ⟨F,ob,_,rfl,hF4,?_⟩));let I16:IvF:=λj σ' H'=>∃(kvs:List (Key × V)) (x3 x4 x5:Option V),σ'=[some (.ref a),some (.ref R),some (.ref F),x3,x4,x5]/\(∀b u,H4 b=some u->b≠R->H' b=some u)/\H' R=some (.dK kvs)/\RInv sh kvs/\∀j',j'<j->∀x,order[j']?=some x->∀y∈nxK (stK sh) x,aV kvs y≠none
 refine ux I16
  ⟨_,_,_,_,rfl,λb u e _=>e,hR4,RInv.first ok,λj' h=>absurd h (X2 _)⟩ (λj σ' H' _ pv=>?_) (λj ky vl σ' H' hj pv=>?_) (λσ' H' pv=>?_)
 ·obtain⟨_,_,_,_,_,o4,_⟩:=pv;exact o4 F _ hF4 FR
 ·obtain⟨kvs,x3,x4,x5,rfl,o4,hR',inv,hp⟩:=pv
  obtain⟨x,b,hx,hb,e1,e2⟩:∃x b,order[j]?=some x/\as[j]?=some b/\ky=x/\vl=V.ref b:=by
   have hj2:=hj;unfold fdK at hj2;rw[Qq]at hj2
   cases q:(order.zip as)[j]? with
   | none=>rw[q]at hj2;cases hj2
   | some p =>
   rw[q]at hj2;cases hj2;have:=XU.mp q;exact⟨p.1,p.2,this.1,this.2,rfl,rfl⟩
  subst e1 e2;obtain⟨i,rfl,ri⟩:=oreach ky (Qh hx);obtain⟨vs,hvs,prs⟩:=sts4 j _ b hx hb;have bR:b≠R:=λz=>by rw[z,hR4]at hvs;cases hvs
  have dg:cN H' F (kV (Sum.inl (i:Int))) (some (.ref b)):=by
   refine .inl ⟨fdK order as,Sum.inl (i:Int),.inr ⟨ob,o4 F _ hF4 FR⟩,rfl,?_⟩;refine(lD ?_ hj).symm;rw[mQ];exact(List.take_sublist _ _).nodup (hO▸Bf.cW n)
  refine aA ?_;refine s_for (s_list (i_dget (aP rfl (aP rfl ⟨F,_,rfl,dg,b,rfl,⟨_,SqL.of (o4 _ _ hvs bR)⟩,?_⟩))))
  have lvs:vs.length=(sh.node i).length:=by
   have:=am prs;rw[gC]at this;unfold d8 at this;rwa [Qd]at this
  let I17:IvF:=λi' σ' H'=>∃(kvs:List (Key × V)) (x4 x5:Option V),σ'=[some (.ref a),some (.ref R),some (.ref F),some (.int (i:Int)),x4,x5]/\(∀b u,H4 b=some u->b≠R->H' b=some u)/\H' R=some (.dK kvs)/\RInv sh kvs/\(∀j',j'<j->∀x,order[j']?=some x->∀y∈nxK (stK sh) x,aV kvs y≠none)/\∀q∈(sh.node i).take i',aV kvs (Sum.inl (q.2:Int))≠none
  refine bY (xs:=vs) I17
   ⟨_,_,_,rfl,o4,hR',inv,hp,λq hq=>by simp at hq⟩ (λi' σ' H' _ pv=>?_) (λi' v σ' H' hv pv=>?_) (λσ' H' pv=>?_)
  ·obtain⟨_,_,_,_,o5,_⟩:=pv;exact SqL.of (o5 _ _ hvs bR)
  ·obtain⟨kvs,x4,x5,rfl,o5,hR5,inv5,hp5,hq5⟩:=pv;obtain⟨st,hst,tp,rfl,htp⟩:=paired_get prs hv;rw[gC]at hst;unfold d8 at hst;rw[Qq]at hst
   cases hpq:(sh.node i)[i']? with
   | none=>rw[hpq]at hst;cases hst
   | some q =>
   rw[hpq]at hst;cases hst;have hqm:q∈sh.node i:=Qh hpq;have htp':H' tp=some (.tup [.str q.1,.int (q.2:Int)]):=o5 _ _ htp (λz=>by rw[z,hR4]at htp;cases htp);refine⟨tp,_,rfl,SqT.of htp',rfl,_,_,rfl,aA ⟨_,_,rfl,aA ⟨rfl,?_⟩⟩⟩;have hrow:=has kvs j inv5 hp5 _ hx;obtain⟨y,hy,sty,_⟩:=inv5.at hrow;refine s_drop (v8 (aP rfl ⟨R,rfl,.inl ⟨_,.inl hR5⟩,aP rfl ?_⟩));refine i_call (i_cons (aP rfl (i_cons (i_dget (aP rfl (aP rfl ⟨R,_,rfl,by have:=cN.k (k:=Sum.inl (i:Int)) hR5;rw[hy]at this;exact this,i_cons (aP rfl (bo ?_))⟩))))));have at5:ShAt H' a li lo ln nas sh:=at4.mono (λb xs e=>o5 b _ e (λz=>by rw[z,hR4]at e;cases e)) (λb xs e=>o5 b _ e (λz=>by rw[z,hR4]at e;cases e));refine⟨a,li,lo,ln,nas,sh,y,q.1,rfl,at5,ok,sty,ok.names _ (Sh.node_mem (Sh.R_lt ok ri)) q hqm,λH6 S6=>?_⟩
   have nextq:∀{kv:List (Key × V)},(∀q'∈(sh.node i).take i',aV kv (Sum.inl (q'.2:Int))≠none)->aV kv (Sum.inl (q.2:Int))≠none->∀q'∈(sh.node i).take (i'+1),aV kv (Sum.inl (q'.2:Int))≠none:=λh1 h2 q' hq'=>by
    rw[XI,hpq]at hq';rcases Qz.mp hq' with h|h
    ·exact h1 q' h
    have:q'=q:=by simpa using h
    subst this;exact h2
   refine⟨kvs,Sum.inl (q.2:Int),S6 _ _ hR5,rfl,λv hv=>?_,λhn=>⟨by have:=inv5.few ok;have:=ok.n100;omega,?_⟩⟩
   ·exact⟨kvs,_,_,rfl,λb u e n=>S6 _ _ (o5 b u e n),S6 _ _ hR5,inv5,hp5,nextq hq5 (by rw[hv];exact λz=>nomatch z)⟩
   refine⟨_,_,_,rfl,λb u e n=>by rw[ah n];exact S6 _ _ (o5 b u e n),ag,inv5.put ok ri hqm hy hn,λj' h x hx' y hy'=>jp (hp5 j' h x hx' y hy'),nextq (λq' h=>jp (hq5 q' h)) ?_⟩;rw[cX,Qs rfl];exact λz=>nomatch z
  obtain⟨kvs,x4,x5,rfl,o5,hR5,inv5,hp5,hq5⟩:=pv;refine⟨kvs,_,_,_,rfl,o5,hR5,inv5,λj' h x hx' y hy'=>?_⟩;by_cases c:j'<j
  ·exact hp5 j' c x hx' y hy'
  have:j'=j:=by omega
  subst this;rw[hx]at hx';cases hx';obtain⟨q,hq,rfl⟩:=kD.mp hy';exact hq5 q (by rw[lvs,Q8 (Qg _)];exact hq)
 obtain⟨kvs,x3,x4,x5,rfl,o4,hR',inv,hp⟩:=pv;rw[lfd]at hp;refine⟨o4 F _ hF4 FR,?_⟩;refine s_ret (aP rfl ?_);refine k R kvs _ ⟨λb u e nT=>?_,?_⟩ hR (by rw[bK FR.symm];exact hR') ⟨inv,λi ri=>?_⟩
 ·obtain⟨e3,nF⟩:=k13 b u e nT;rw[bK nF];exact o4 b u (by rw[h4 b nF];exact e3) (aq e hR)
 ·have bk:∀{b u},H3d b=some u->b≠F->b≠R->back H3d F H' b=some u:=λ{b u} e n1 n2=>by rw[bK n1];exact o4 b u (by rw[h4 b n1];exact e) n2
  rcases tb3 with e|⟨c',e,q⟩
  ·exact .inl (bk e (λz=>by rw[z,hF3d]at e;cases e) (λz=>by rw[z,hR3]at e;cases e))
  exact .inr ⟨c',bk e (λz=>by rw[z,hF3d]at e;cases e) (λz=>by rw[z,hR3]at e;cases e),bk q (λz=>by rw[z,hF3d]at q;cases q) (λz=>by rw[z,hR3]at q;cases q)⟩
 have hm:(Sum.inl (i:Int):Key)∈order:=hO▸(Bf.wr (by rw[hO];omega) _).mpr (re ri);obtain⟨j,hj,e⟩:=List.mem_iff_getElem.mp hm;exact has kvs j inv (λj' h=>hp j' (by omega)) _ (by rw[Qb hj,e])
end
structure SgsOk (s:Sh) (vs:List V):Prop where
 len:vs.length=s.nodes.length
 row:∀i,s.R i->∃y,vs[i]?=some (.str y)/\StOk s.ws.length y/\∀lam,Lab s lam->lam i=y
 none:∀i,i<s.nodes.length->¬s.R i->vs[i]?=some .non
def gD (TL:Addr):Sp:=λvs H Q _=>∃(a li lo ln:Addr) (nas:A3) (s:Sh),vs=[.ref a]/\ShAt H a li lo ln nas s/\ShOk s/\cz TL ba H/\∀(L:Addr) (us:List V) H',Tk TL H H'->H L=none->H' L=some (.lst us)->SgsOk s us->Q (.ref L) H'
section
theorem lM:FnScope ["sheet", "rows"] ["sheet"] (aw (top 9)):=by fin2
theorem tO {TL:Addr} {f:Addr} {fd:FuncData} (Fu:Fun K "signs_of" "signs_of" (top 9) f fd) (T:Txt K mg TT) (f_rows_found:Fn P w K mg base "rows_found" ["sheet"] 3 (nE TL)):FnOk P w K mg base CX0 4 f fd ["sheet"] (gD TL):=by
 have S:=lM;refine Fu.ok S (by room) (λcdv A outer s H vs Q E hr h=>?_);obtain⟨a,li,lo,ln,nas,sh,rfl,at_,ok,tb,k⟩:=h;have hu:=cB hr
 refine⟨_,(pss_cons (aE 1 S.nd (aH f_rows_found hr (aa (pv 0) ac ae)))
  (pss_one (aW (ju "node" [("rows", 1)] (cD (by rfl) T.n_range (aa (aF az (by rfl) T.n_len QV (aa (ao ax (pv 0) af) ac)) ac aM)) (λ_ _ _ _=>(tH hu (pv 1) (pv 0) ⟨rfl,rfl,rfl,rfl⟩)))))),?_⟩
 x_go;lk;refine⟨a,li,lo,ln,nas,sh,rfl,at_,ok,tb,λR kvs H1 t1 hR hR1 rok=>?_⟩;have at1:ShAt H1 a li lo ln nas sh:=at_.mono (t1.lst tb) (t1.tup tb);have ha1:=at1.ha;have lnas:nas.length=sh.nodes.length:=am at1.nodes;have n100:=ok.n100;lk;refine b_ ?_;lk;refine⟨_,_,rfl,Or.inl (SqL.of at1.hn),?_⟩;lk;refine⟨by rw[Qd];omega,by rw[Qd];omega,λL hL=>?_⟩;rw[Q2,Qd,lnas]
 have HL:H L=none:=by
  cases e:H L with
  | none=>rfl
  | some o =>
  by_cases c:L=TL
  ·obtain⟨ps,e2⟩:=xr t1.tab;rw[c,e2]at hL;cases hL
  rw[t1.old _ _ e c]at hL;cases hL
 let I18:IvC:=λn H' ys=>ak H1 H'/\H' L=some (.lst ys)/\ys=(List.range n).map λ(i:Nat)=>(aV kvs (Sum.inl (i:Int))).getD .non;refine ft (n:=sh.nodes.length) I18 ⟨ar hL,ag,rfl⟩ (λi H' ys pv=>pv.2.1) (λi H' ys hi pv=>?_) (λH' ys pv=>?_)
 ·obtain⟨S2,hl,rfl⟩:=pv;rw[Int.zero_add];refine aA ⟨by repeat' (first|exact trivial|refine⟨rfl,?_⟩),i_yes (iteT ?_)⟩;refine v9 (aP rfl ⟨R,rfl,.inl ⟨_,.inl (S2 _ _ hR1)⟩,aP rfl ⟨_,cN.k (k:=Sum.inl (i:Int)) (S2 _ _ hR1),?_⟩⟩);refine eX.mk hl hi (by rw[Qd,Q3];omega) ⟨bO S2 hL,ag,?_⟩;rw[X5,QZ];rfl
 obtain⟨S2,hl,rfl⟩:=pv;refine k L _ H' (t1.trans (Tk.of t1.tab S2)) HL hl ⟨by rw[Qd,Q3],λi ri=>?_,λi hi nr=>?_⟩
 ·obtain⟨y,hy,st,l⟩:=rok.inv.at (rok.all i ri);refine⟨y,?_,st,l⟩;rw[Qq,List.getElem?_range (Sh.R_lt ok ri)];show some ((aV kvs (Sum.inl (i:Int))).getD .non)=_;rw[hy];rfl
 rw[Qq,List.getElem?_range hi];show some ((aV kvs (Sum.inl (i:Int))).getD .non)=_
 cases e:aV kvs (Sum.inl (i:Int)) with
 | none=>rfl
 | some v =>
 obtain⟨j,y,ej,_,r,_⟩:=rok.inv.sound _ _ e;cases ej;exact absurd r nr
end
def iV (m:List Nat) (i:Nat):List Nat:=if i∈m then m else m++[i]
def cO (r:Rg) (ts:List Tu) (ps:List Pl) (p:Pl):Nd:=(ts.filter (bT r.arcs p.1)).map λt=>(t.1,ps.idxOf (a7 r p t).2)
theorem iD [BEq α] [LawfulBEq α] {xs ys:List α} {x:α} (h:x∈xs):(xs++ys).idxOf x=xs.idxOf x:=by
 rw[List.idxOf_append,Qs h]
theorem yz {k:Nat} (h:i<k):iV (List.range k) i=List.range k:=by unfold iV;rw[Qs (QR.mpr h)]
theorem wA {k:Nat}:iV (List.range k) k=List.range (k+1):=by
 unfold iV;rw[Qn (by rw[QR];omega),X5]
structure InO (r:Rg) (row:Str) (ss:List Sp1) (x x':Sx) (nd nd':Nd) (e:List Pl):Prop where
 ps:x'.ps=x.ps++e
 un:x.ps.Nodup->x'.ps.Nodup
 node:nd'=nd++ss.map λs=>(s.1.1,x'.ps.idxOf s.2)
 odd:∀s∈ss,cT r row s=none/\s.2∈x'.ps
 new:∀p∈e,∃s∈ss,s.2=p
 l40:x.ps.length<=40->x'.ps.length<=40
 met:(ss.map λs=>x'.ps.idxOf s.2).foldl iV (List.range x.ps.length)=List.range x'.ps.length
theorem kR {r:Rg} {row:Str} {way:List Tu}:∀{ss:List Sp1} {x x':Sx} {nd nd':Nd},bu r row way ss x nd=.inr (x',nd')->∃e,InO r row ss x x' nd nd' e
 | [],x,x',nd,nd',h=>by
  unfold bu at h;cases h;exact⟨[],by simp,id,by simp,(λs hs=>nomatch hs),(λs hs=>nomatch hs),id,rfl⟩
 | s::ss,x,x',nd,nd',h=>by
  unfold bu at h
  cases co:cT r row s with
  | some w=>rw[co]at h;cases h
  | none =>
  rw[co]at h;dsimp only at h;by_cases c:s.2∈x.ps
  ·rw[Qs c]at h;obtain⟨e,i⟩:=kR h;have m':s.2∈x'.ps:=by rw[i.ps];exact Xa _ c
   have ei:x'.ps.idxOf s.2=x.ps.idxOf s.2:=by rw[i.ps,iD c]
   refine⟨e,i.ps,i.un,?_,λt ht=>?_,λp hp=>?_,i.l40,?_⟩
   ·rw[i.node,XN,Qx,ei];rfl
   ·rcases Qj.mp ht with rfl|ht
    ·exact⟨co,m'⟩
    exact i.odd t ht
   ·obtain⟨t,ht,q⟩:=i.new p hp;exact⟨t,Qp _ ht,q⟩
   rw[Qx,List.foldl_cons,ei,yz (QA c)];exact i.met
  rw[Qn c]at h;by_cases c40:x.ps.length=40
  ·rw[Qs c40]at h;cases h
  rw[Qn c40]at h;obtain⟨e,i⟩:=kR h;have ps:=i.ps;dsimp only at ps;have m0:s.2∈x.ps++[s.2]:=by simp
  have m':s.2∈x'.ps:=by rw[ps];exact Xa _ m0
  have ei:x'.ps.idxOf s.2=x.ps.length:=by rw[ps,iD m0,List.idxOf_append,Qn c];simp
  refine⟨s.2::e,by rw[ps];simp,λn=>i.un ?_,?_,λt ht=>?_,λp hp=>?_,λl=>i.l40 ?_,?_⟩
  ·show (x.ps++[s.2]).Nodup;rw[XC];exact⟨n,by simp,λa ha b hb z=>c (by rw[<-Qv.mp hb,<-z];exact ha)⟩
  ·rw[i.node,XN,Qx,ei];rfl
  ·rcases Qj.mp ht with rfl|ht
   ·exact⟨co,m'⟩
   exact i.odd t ht
  ·rcases Qj.mp hp with rfl|hp
   ·exact⟨s,by simp,rfl⟩
   obtain⟨t,ht,q⟩:=i.new p hp;exact⟨t,Qp _ ht,q⟩
  ·show (x.ps++[s.2]).length<=40;rw[Qi,QK];omega
  have im:=i.met;rw[Qx,List.foldl_cons,ei,wA];rw[show (x.ps++[s.2]).length=x.ps.length+1 by rw[Qi];rfl]at im;exact im
structure OuO (r:Rg) (ts:List Tu) (x:Sx) (nds:List Nd):Prop where
 le:nds.length<=x.ps.length
 l40:x.ps.length<=40
 zero:x.ps[0]?=some (mks r.arcs,r.z)
 nd:x.ps.Nodup
 ok:∀p∈x.ps,PlOk r p
 node:∀(i:Nat) (p:Pl),i<nds.length->x.ps[i]?=some p->nds[i]?=some (cO r ts x.ps p)/\∀t∈ts,bT r.arcs p.1 t=true->(a7 r p t).2∈x.ps/\cT r p.2 (a7 r p t)=none
 from_:∀(j:Nat) (p:Pl),x.ps[j]?=some p->j=0\/∃(i:Nat) (q:Pl) (t:Tu),i<j/\i<nds.length/\x.ps[i]?=some q/\t∈ts/\bT r.arcs q.1 t=true/\(a7 r q t).2=p
 met:((nds.map λnd=>nd.map (·.2)).flatten).foldl iV [0]=List.range x.ps.length
structure ShtP (r:Rg) (ts:List Tu) (ps:List Pl) (nds:List Nd):Prop where
 len:ps.length=nds.length
 l40:ps.length<=40
 zero:ps[0]?=some (mks r.arcs,r.z)
 nd:ps.Nodup
 ok:∀p∈ps,PlOk r p
 node:∀(i:Nat) (p:Pl),ps[i]?=some p->nds[i]?=some (cO r ts ps p)
 mem:∀p∈ps,∀t∈ts,bT r.arcs p.1 t=true->(a7 r p t).2∈ps/\cT r p.2 (a7 r p t)=none
 from_:∀(j:Nat) (p:Pl),ps[j]?=some p->j=0\/∃(i:Nat) (q:Pl) (t:Tu),i<j/\ps[i]?=some q/\t∈ts/\bT r.arcs q.1 t=true/\(a7 r q t).2=p
 met:((nds.map λnd=>nd.map (·.2)).flatten).foldl iV [0]=List.range ps.length
theorem nX {ps e:List Pl} {p:Pl} (h:∀t∈ts,bT r.arcs p.1 t=true->(a7 r p t).2∈ps):cO r ts (ps++e) p=cO r ts ps p:=by
 unfold cO;refine XJ λt ht=>?_;obtain⟨ht,hm⟩:=QP.mp ht;rw[iD (h t ht hm)]
variable {nds:List Nd}
theorem OuO.step (ok:RgOk r) (wt:Wt r ts) {x x':Sx} {nd:Nd} {p:Pl} {way:List Tu} (o:OuO r ts x nds) (hp:x.ps[nds.length]?=some p) (h:bu r p.2 way (bH r ts p) x []=.inr (x',nd)):OuO r ts x' (nds++[nd]):=by
 obtain⟨e,i⟩:=kR h;have hl:=(Qc.mp hp).1;have pm:=Qh hp;have ps:=i.ps;have old:∀j,j<x.ps.length->x'.ps[j]?=x.ps[j]?:=λj hj=>by rw[ps,QG hj]
 have st:∀t∈ts,bT r.arcs p.1 t=true->(a7 r p t).2∈x'.ps/\cT r p.2 (a7 r p t)=none:=λt ht hm=>by
  have:=i.odd (a7 r p t) (Ql.mpr ⟨t,QP.mpr ⟨ht,hm⟩,rfl⟩);exact⟨this.2,this.1⟩
 have en:nd=cO r ts x'.ps p:=by
  rw[i.node];unfold bH cO;rw[List.nil_append,Xw];rfl
 refine⟨?_,i.l40 o.l40,?_,i.un o.nd,λq hq=>?_,λj q hj hq=>?_,λj q hq=>?_,?_⟩
 ·rw[ps,Qi,Qi,QK];omega
 ·rw[old 0 (by omega)];exact o.zero
 ·rw[ps]at hq;rcases Qz.mp hq with hq|hq
  ·exact o.ok q hq
  obtain⟨s,hs,rfl⟩:=i.new q hq;obtain⟨t,ht,rfl⟩:=Ql.mp hs;obtain⟨ht,hm⟩:=QP.mp ht;refine lG (o.ok p pm) (Wt.ok ok wt ht) hm λz=>?_;have co:=(st t ht hm).2;unfold cT at co;rw[Qs z]at co
  split at co <;> cases co
 ·rw[Qi,QK]at hj;by_cases c:j<nds.length
  ·rw[old j (by omega)]at hq;obtain⟨h1,h2⟩:=o.node j q c hq;refine⟨?_,λt ht hm=>⟨by rw[ps];exact Xa _ (h2 t ht hm).1,(h2 t ht hm).2⟩⟩;rw[QG c,h1,ps,nX λt ht hm=>(h2 t ht hm).1]
  obtain rfl:j=nds.length:=by omega
  rw[old _ hl,hp]at hq;cases hq;exact⟨by rw[QJ (Qg _),Nat.sub_self,en];rfl,st⟩
 ·by_cases c:j<x.ps.length
  ·rw[old j c]at hq;rcases o.from_ j q hq with h|⟨k,q',t,h1,h2,h3,h4⟩
   ·exact .inl h
   exact .inr ⟨k,q',t,h1,by rw[Qi];omega,by rw[old k (by omega)];exact h3,h4⟩
  rw[ps,QJ (by omega)]at hq;obtain⟨s,hs,rfl⟩:=i.new q (Qh hq);obtain⟨t,ht,rfl⟩:=Ql.mp hs;obtain⟨ht,hm⟩:=QP.mp ht;exact .inr ⟨nds.length,p,t,by omega,by rw[Qi];simp,by rw[old _ hl];exact hp,ht,hm,rfl⟩
 have im:=i.met;rw[QZ,List.flatten_append,List.foldl_append,o.met,<-im,en];unfold cO bH;rw[Xw];simp[Function.comp_def]
theorem pN {r:Rg} {ts:List Tu} (ok:RgOk r) (wt:Wt r ts):∀{f:Nat} {x:Sx} {nds nds':List Nd},OuO r ts x nds->outer r ts f x nds=.sheet nds'->∃ps,ShtP r ts ps nds'
 | 0,x,nds,nds',o,h=>by unfold outer at h;cases h
 | f+1,x,nds,nds',o,h=>by
  unfold outer at h;by_cases c:nds.length<x.ps.length
  ·rw[Qs c]at h;have gp:=Sx.p_mem c
   cases e:bu r (x.p nds.length).2 (x.wy nds.length) (bH r ts (x.p nds.length)) x [] with
   | inl res =>
    rw[e]at h;dsimp only at h;rw[h]at e;exfalso;exact inner_ns e
   | inr q =>
   obtain⟨x',nd⟩:=q;rw[e]at h;dsimp only at h;exact pN ok wt (o.step ok wt gp e) h
  rw[Qn c]at h;cases h;have le:=o.le;have l:x.ps.length=nds.length:=by omega
  refine⟨x.ps,l,o.l40,o.zero,o.nd,o.ok,λi p hp=>(o.node i p (by have:=(Qc.mp hp).1;omega) hp).1,λp hp=>?_,λj p hj=>?_,o.met⟩
  ·obtain⟨i,hi⟩:=Xl hp;exact(o.node i p (by have:=(Qc.mp hi).1;omega) hi).2
  rcases o.from_ j p hj with h|⟨i,q,t,h1,_,h2⟩
  ·exact .inl h
  exact .inr ⟨i,q,t,h1,h2⟩
where
 inner_ns {r:Rg} {row:Str} {way:List Tu}:∀{ss:List Sp1} {x:Sx} {nd:Nd} {nds:List Nd},bu r row way ss x nd=.inl (.sheet nds)->False
 | [],x,nd,nds,h=>by unfold bu at h;cases h
 | s::ss,x,nd,nds,h=>by
  unfold bu at h
  cases co:cT r row s with
  | some w=>rw[co]at h;cases h
  | none =>
  rw[co]at h;dsimp only at h;by_cases c:s.2∈x.ps
  ·rw[Qs c]at h;exact inner_ns h
  rw[Qn c]at h;by_cases c40:x.ps.length=40
  ·rw[Qs c40]at h;cases h
  rw[Qn c40]at h;exact inner_ns h
theorem jf (ok:RgOk r) (wt:Wt r ts) (h:unf r ts=.sheet nds):∃ps,ShtP r ts ps nds:=by
 refine pN (x:=Sx.first r) (nds:=[]) ok wt ⟨QT _,(by decide:1<=40),rfl,QS.mpr ⟨by simp,.nil⟩,λp hp=>?_,λi p hi=>absurd hi (X2 _),λj p hj=>?_,rfl⟩ h
 ·cases Qv.mp hp;exact kG ok
 left
 have:=(Qc.mp hj).1;have:j<1:=this;omega
def bZ (r:Rg) (nds:List Nd):Sh:=⟨r.ins,r.outs,r.z,nds⟩
theorem su {nd:Nd} (h:lu H l nd):bC H l (d8 nd):=by
 obtain⟨vs,e,p⟩:=h;refine⟨vs,e,?_⟩;unfold d8;refine bP (ad (λv q ⟨b,e1,e2⟩=>⟨b,e1,e2⟩) p)
theorem eG (h:zV H0 H v r (.sheet nds)):∃a s li lo ln nas,v=.ref a/\H a=some (.tup [.str "sheet", .ref s])/\ShAt H s li lo ln nas (bZ r nds)/\(li::lo::ln::nas).Nodup/\∀b∈li::lo::ln::nas,H0 b=none:=by
 obtain⟨a,s,li,lo,ln,nas,e,ha,hs,hi,ho,hn,pn,nd,new⟩:=h;exact⟨a,s,li,lo,ln,nas,e,ha,⟨hs,hi,ho,hn,ad (λ_ _ q=>su q) pn⟩,nd,new⟩
section
variable {r:Rg} {ts:List Tu} {ps:List Pl} {nds:List Nd}
def c7 (ps:List Pl) (i:Nat):Str:=(ps.getD i ([],Str.empty)).2
theorem eA {i:Nat} {p:Pl} (h:ps[i]?=some p):c7 ps i=p.2:=by unfold c7;rw[Qo,h];rfl
theorem ShtP.nodeAt (S:ShtP r ts ps nds) {i:Nat} {p:Pl} (h:ps[i]?=some p):(bZ r nds).node i=cO r ts ps p:=Sh.node_of (S.node i p h)
theorem ShtP.to_ (S:ShtP r ts ps nds) {p:Pl} (hp:p∈ps) {t:Tu} (ht:t∈ts) (hm:bT r.arcs p.1 t=true):ps[ps.idxOf (a7 r p t).2]?=some (a7 r p t).2:=by
 have m:=(S.mem p hp t ht hm).1;have hi:=QA m;rw[Qb hi];exact congrArg some (XS hi)
theorem ShtP.reach (S:ShtP r ts ps nds):∀i,i<ps.length->(bZ r nds).R i:=by
 intro i
 induction i using Nat.strongRecOn with
 | ind i ih =>
 intro hi;rcases S.from_ i _ (Qb hi) with rfl|⟨k,q,t,hk,hq,ht,hm,e⟩
 ·exact Bf.Reach.start
 refine Bf.Reach.step (ih k hk (by omega)) ?_;show i∈((bZ r nds).node k).map (·.2);rw[S.nodeAt hq];refine Ql.mpr ⟨(t.1,i),Ql.mpr ⟨t,QP.mpr ⟨ht,hm⟩,?_⟩,rfl⟩;rw[e,S.nd.idxOf_getElem i hi]
theorem ShtP.shok (S:ShtP r ts ps nds) (ok:RgOk r) (wt:Wt r ts):ShOk (bZ r nds):=by
 have l40:=S.l40;have len:=S.len;have w5:=ok.w5;have z:=(Qc.mp S.zero).1
 have at_:∀node∈nds,∃p∈ps,node=cO r ts ps p:=λnode hn=>by
  obtain⟨i,hi⟩:=Xl hn;have il:=(Qc.mp hi).1;have e:=S.node i _ (Qb (by omega));rw[hi]at e;exact⟨_,QW _,QC e⟩
 refine⟨ok.nd,ok.w1,show r.ws.length<=11 by omega,ok.st,show 1<=nds.length by omega,show nds.length<=100 by omega,λnode hn q hq=>?_,λnode hn q hq=>?_,λnode hn=>?_⟩
 ·obtain⟨p,hp,rfl⟩:=at_ node hn;obtain⟨t,ht,rfl⟩:=Ql.mp hq;exact(Wt.ok ok wt (QP.mp ht).1).1
 ·obtain⟨p,hp,rfl⟩:=at_ node hn;obtain⟨t,ht,rfl⟩:=Ql.mp hq;obtain⟨ht,hm⟩:=QP.mp ht;show _<nds.length;rw[<-len];exact QA (S.mem p hp t ht hm).1
 obtain⟨p,hp,rfl⟩:=at_ node hn;unfold cO;rw[Qd];exact QQ (List.length_filter_le _ _) (QQ (Wt.few ok wt) (by decide))
theorem ShtP.lab (S:ShtP r ts ps nds) (ok:RgOk r) (wt:Wt r ts):Lab (bZ r nds) (c7 ps):=by
 refine⟨eA S.zero,λi hi q hq=>?_⟩;have il:i<nds.length:=Sh.R_lt (S.shok ok wt) hi;have len:=S.len;have gp:=Qb (l:=ps) (i:=i) (by omega);rw[S.nodeAt gp]at hq;obtain⟨t,ht,rfl⟩:=Ql.mp hq;obtain⟨ht,hm⟩:=QP.mp ht;rw[eA (S.to_ (QW _) ht hm),eA gp];rfl
theorem mi {row:Str} {s:Sp1} (h:cT r row s=none):sgB row (r.ws.idxOf s.1.1)=!decide (s.1.2 = "+"):=by
 unfold cT at h
 split at h
 ·cases h
 next c =>
 cases a:sgB row (r.ws.idxOf s.1.1) <;> cases b:decide (s.1.2 = "+") <;> simp_all
theorem ShtP.names (S:ShtP r ts ps nds) (ok:RgOk r) (wt:Wt r ts) {p:Pl} (hp:p∈ps):((cO r ts ps p).map (·.1)).Nodup:=by
 unfold cO;rw[Xw];refine Xo.mpr ?_;refine List.Pairwise.imp_of_mem ?_ (wt.nd.filter _);intro a b ha hb ne e;obtain⟨ha,ma⟩:=QP.mp ha;obtain⟨hb,mb⟩:=QP.mp hb;have e:a.1=b.1:=e;have oa:=mi (S.mem p hp a ha ma).2;have ob:=mi (S.mem p hp b hb mb).2;have oa:sgB p.2 (r.ws.idxOf a.1)=!decide (a.2 = "+"):=oa;have ob:sgB p.2 (r.ws.idxOf b.1)=!decide (b.2 = "+"):=ob;rw[e,ob]at oa
 apply ne
 refine Prod.ext e ?_;rcases(Wt.ok ok wt ha).2 with h1|h1 <;> rcases(Wt.ok ok wt hb).2 with h2|h2 <;> rw[h1,h2]at oa ⊢ <;> first|rfl|(exfalso;revert oa;decide +kernel)
end
section
end
theorem RgA.tk (tb:cz TL ba H) (k:Tk TL H H') (h:RgA H a li lo l vs r):RgA H' a li lo l vs r:=⟨k.tup tb _ _ h.ha,k.lst tb _ _ h.hi,k.lst tb _ _ h.ho,k.lst tb _ _ h.arcs.h,ad (λ_ _ q=>q.kt (k.tup tb)) h.arcs.p⟩
theorem ShAt.tk (tb:cz TL ba H) (k:Tk TL H H') (h:ShAt H a li lo ln nas s):ShAt H' a li lo ln nas s:=h.mono (k.lst tb) (k.tup tb)
theorem Dk.At.tk (tb:cz TL ba H) (k:Tk TL H H') (h:D.At H):D.At H':=let ⟨a,b,c,e,l⟩:=h;⟨a,b,c,k.lst tb _ _ e,l⟩
theorem wH (tb:cz TL ba H) (DA:D.At H) (k:Kp D' H H') (e:D.d=D'.d):cz TL ba H':=by
 have no:∀{b o},H b=some o->(∀xs,o≠.lst xs)->¬D'.own b:=λ{b o} h n z=>io DA h (λxs q=>absurd q (n xs)) (show b=D.d by rw[e];exact z);rcases tb with h|⟨c,h,q⟩
 ·exact .inl (k.old _ _ h (no h λ_ z=>nomatch z))
 exact .inr ⟨c,k.old _ _ h (no h λ_ z=>nomatch z),k.old _ _ q (no q λ_ z=>nomatch z)⟩
theorem ph {K:PySem.W.Frag} {xs:List V} (h:SqL K H a xs) (k:∀o,H a=some o->H' a=some o):SqL K H' a xs:=by
 rcases h with h|h
 ·left
  rcases h with e|⟨o,e⟩
  ·exact .inl (k _ e)
  exact .inr ⟨o,k _ e⟩
 exact .inr h
structure Kt (TL:Addr) (D:Dk) (H H':Hp):Prop where
 old:∀b o,H b=some o->¬D.own b->b≠TL->H' b=some o
 dk:D.At H'
 tab:cz TL ba H'
theorem Kt.of_tk (tb:cz TL ba H) (DA:D.At H) (k:Tk TL H H'):Kt TL D H H':=⟨λb o e _ n=>k.old b o e n,DA.tk tb k,k.tab⟩
theorem Kt.of_kp {D:Dk} (tb:cz TL ba H) (DA:D.At H) (k:Kp D H H'):Kt TL D H H':=⟨λb o e n _=>k.old b o e n,k.dk,wH tb DA k rfl⟩
theorem Kt.trans (a:Kt TL D H H1) (b:Kt TL D' H1 H2) (e:D.d=D'.d:=by rfl):Kt TL D' H H2:=⟨λc o h n t=>b.old c o (a.old c o h (by unfold Dk.own at n ⊢;rw[e];exact n) t) n t,b.dk,b.tab⟩
theorem Kt.le {D':Dk} (a:Kt TL D H H') (l:D.n<=D'.n) (e:D.d=D'.d:=by rfl):Kt TL D' H H':=⟨λc o h n=>a.old c o h (by unfold Dk.own at n ⊢;rw[e];exact n),a.dk.le l e,a.tab⟩
theorem fK {α β γ:Type} {F:α->γ->Prop} {f:β->γ}:∀{vs:List α} {hs:List β},Paired F vs (hs.map f)->Paired (λv p=>F v (f p)) vs hs
 | [],[],_=>.nil
 | [],_::_,h=>by rw[Qx]at h;cases h
 | _::_,[],h=>by rw[List.map_nil]at h;cases h
 | _::_,_::_,h=>by rw[Qx]at h;cases h with|cons r t=>exact .cons r (fK t)
theorem wP {nd:Nd} (p:Paired (λv (s:V × Key)=>∃b,v=.ref b/\H b=some (.tup [s.1,kV s.2])) vs (d8 nd)):Paired (SgA H) vs nd :=
 ad (λv q ⟨b,e1,e2⟩=>⟨b,e1,e2⟩) (fK p)
theorem tV {nd:Nd} (p:Paired (SgA H) vs nd):Paired (uW H) vs (nd.map λp=>(p.1,V.int (p.2:Int))) :=
 bP (ad (λv q ⟨b,e1,e2⟩=>⟨b,e1,e2⟩) p)
theorem ShAt.nd {H:Hp} {a li lo ln:Addr} {nas:A3} {s:Sh} (h:ShAt H a li lo ln nas s) {i:Nat} {nd:Nd} (hi:s.nodes[i]?=some nd):∃na vs,(nas.map V.ref)[i]?=some (.ref na)/\H na=some (.lst vs)/\Paired (SgA H) vs nd:=by
 obtain⟨na,hna,vs,hv,pv⟩:=aX h.nodes hi;exact⟨na,vs,by rw[Qq,hna];rfl,hv,wP pv⟩
section
variable {K:PySem.W.Frag} {σ:St} {H:Hp}
theorem v5 {R:Bool->Hp->Prop} {i:Nat} {l:Addr} {xs:List V} (hi:σ[i]?=some (some (.ref l))) (hl:H l=some (.lst xs)) (q:∀H',ak H H'->R (!decide (xs.length=0)) H'):rY (tOp (g_ K true) (e_ i) (rZ j3)) σ H R:=by
 refine i_test (i_op (aP hi (i_lst (bo ⟨by simp[sizeLine],λp hp=>?_⟩))));refine⟨l,p,xs,[],λ_=>true,rfl,rfl,SqL.of (ar hp _ _ hl),SqL.of ag,λj x y _ e=>by simp at e,_,rfl,?_⟩
 have e:(if true=true then !(xs.length==([]:List V).length&&(List.range xs.length).all λ_=>true) else (xs.length==([]:List V).length&&(List.range xs.length).all λ_=>true))=!decide (xs.length=0):=by
  rw[Qs rfl,QX.mpr (λ_ _=>rfl),Bool.and_true];rfl
 rw[e];exact q _ (ar hp)
end
section
theorem lQ:FnScope ["pool", "names", "turns", "order", "marks", "turn", "other", "pair", "odd", "first", "k", "name", "sign", "arcs", "at"] ["pool"] (aw (top 29)):=by fin2
theorem vE {f:Addr} {fd:FuncData} (Fu:Fun K "_law_ring" "_law_ring" (top 29) f fd) (T:Txt K mg TT) (f_law_take:Fn P w K mg base "_law_take" ["pool", "many"] 1 fc) (f_law_names:Fn P w K mg base "_law_names" ["pool", "many"] 2 gP) (f_law_order:Fn P w K mg base "_law_order" ["pool", "things"] 2 (j4 K)) (f_law_arcs:Fn P w K mg base "_law_arcs" ["pool", "order", "names"] 2 sF):FnOk P w K mg base CX0 3 f fd ["pool"] sy:=by
 have S:=lQ;refine Fu.ok S (by room) (λcdv A outer s H vs Q E hr h=>?_);obtain⟨D,rfl,DA,dn,k⟩:=h;have hu:=cB hr;refine'⟨?_,?bb,?_⟩
 case bb =>
  walk_at "b";exact aE 1 S.nd (aH f_law_names hr (aa (pv 0) (aa (aO bX af (ao aD (a_ (aa (aH f_law_take hr (aa (pv 0) (aa af ac ay) ae)) (aa (aH f_law_take hr (aa (pv 0) (aa af ac ay) ae)) ac aM) aM)) (aH f_law_take hr (aa (pv 0) (aa af ac ay) ae)))) ac se_bin) ae));exact aE 2 S.nd (aO fj (ju "name" [] (br (pv 1)) (λ_ _ _ _=>(be (aa (pv 0) (aa aI ac ay) ae)))) (ju "name" [] (br (pv 1)) (λ_ _ _ _=>(be (aa (pv 0) (aa aI ac ay) ae)))));exact aE 3 S.nd (aH f_law_order hr (aa (pv 0) (aa (pv 2) ac ae) ae));exact aE 4 S.nd (aH f_law_arcs hr (aa (pv 0) (aa (pv 3) (aa (pv 1) ac ae) ae) ae));walk_at "f";exact(br (pv 2));exact(bD 5 S.nd);walk_at "p";exact(aB (ii hr.units) (xN (jt (tgs:=["pair"]) (cap:=[("turn", 5)]) rfl ⟨rfl,rfl,rfl,rfl,rfl,rfl⟩ (tj (pv 4)) (λ_ _ _ _=>(bI (i:=0) (show List.Nodup [("pair" : Str),("turn" : Str)] by decide +kernel) rfl (by z_go))) (λ_ _ _ _=>(dm (aB (pQ (K:=K) rfl hr.units) (ao (eL (K:=K) rfl) (pv 0) af) (pv 1) (aJ _)))) (λ_ _ _ _=>(pv 0)))) (a_ ac) (aJ _));exact aE 6 S.nd (ao aD (pv 2) (aH f_law_take hr (aa (pv 0) (aa (aF az (by rfl) T.n_len QV (aa (pv 2) ac ae)) ac aM) ae)));exact(aB (kB hr.units) (pv 6) (pv 5) (aJ _));exact aE 6 S.nd (be (aa (ao ax (pv 5) af) (aa (ao dJ aI (bw cI (by rfl) T.n_int XY (aa (cK dP (ao ax (pv 5) af) aI (aJ _)) ac))) ac)));exact(dE hu (pv 4) (be (aa (pv 6) (aa (pv 5) ac ae) ae)) (bw cI (by rfl) T.n_int XY (aa (cK mh (bE QB Xb Xc (cg hr.units) (pv 3) (aa (pv 6) ac ae)) (bE QB Xb Xc (cg hr.units) (pv 3) (aa (pv 5) ac ae)) (aJ _)) ac)) rfl);exact(aB dP (aH f_law_take hr (aa (pv 0) (aa af ac ay) ae)) af (aJ _));exact aE 7 S.nd (ao aD (aF (fz rfl hu) (by rfl) T.n_sorted PyProof.Rows.boot_sorted (aa (pv 4) ac ae)) (aH f_law_take hr (aa (pv 0) (aa (aF rJ (by rfl) T.n_len QV (aa (pv 4) ac ae)) ac aM) ae)));exact(dE hu (pv 4) (pv 7) (aO f9 af (eJ hu (pv 4) (pv 7))) rfl);exact aE 8 S.nd (aH f_law_take hr (aa (pv 0) (aa (aO d7 af (aF az (by rfl) T.n_len QV (aa (pv 1) ac ae))) ac) ae));exact aE 9 S.nd aI;walk_at "f";exact(gG (by rfl) T.n_enumerate (aa (pv 1) ac ae));exact(fh rfl (bg (bD 10 S.nd) (bg (bD 11 S.nd) cS)));walk_at "p";exact aE 12 S.nd (bw cI (by rfl) T.n_int XY (aa (cK l_ (bE QB Xb Xc (cg hr.units) (pv 3) (aa (be (aa (pv 11) (aa aI ac ay) ae)) ac se_tup)) (bE QB Xb Xc (cg hr.units) (pv 3) (aa (be (aa (pv 11) (aa aI ac ay) ae)) ac se_tup)) (aJ _)) ac));exact aE 9 S.nd (aO b9 (pv 9) (ao dJ aI (aO f_ (aO bX (pv 12) (bw cI (by rfl) T.n_int XY (aa (cK dP (pv 8) (pv 10) (aJ _)) ac))) af)));exact(lW (j:=13) S.nd rfl (by z_go) (tgs:=["pair"]) (cap:=[("marks", 4)]) rfl ⟨rfl,rfl,rfl,rfl,rfl,rfl⟩ (br (aF (fz rfl hu) (by rfl) T.n_sorted PyProof.Rows.boot_sorted (aa (pv 4) ac ae))) (λ_ _ _ _=>(bI (i:=0) (show List.Nodup [("pair" : Str),("marks" : Str)] by decide +kernel) rfl (by z_go))) (λ_ _ _ _=>d4) (λ_ _ _ _=>(be (aa (ao (eL (K:=K) rfl) (pv 0) af) (aa (ao (eL (K:=K) rfl) (pv 0) af) (aa (eJ hu (pv 1) (pv 0)) ac))))));exact aE 14 S.nd (aH f_law_take hr (aa (pv 0) (aa (aF (gj rfl) (by rfl) T.n_min PyProof.Rows.boot_min (aa af (aa (aF az (by rfl) T.n_len QV (aa (pv 1) ac ae)) ac aM) ay)) ac aM) ae));refine' aW ?e
  case e =>
   walk_at "q";exact(cx gE (pv 1) cR (cQ (pv 14)));exact(cx gE (pv 1) (cQ (pv 14)) cR);exact(pv 9);exact(pv 13)
 x_go;lk;refine bi (c:=0) (Kp.of DA (ak.refl H)) (by omega) (by omega) (by omega) λx1 H1 x10 x11 o1 kp1=>?_;lk;refine bi kp1 (by omega) (by omega) (by omega) λx2 H2 x20 x21 o2 kp2=>?_;lk;refine⟨by simp[sizeLine],λp0 hp0=>?_⟩;generalize hE:upd H2 p0 _=H3;obtain⟨S3,q3⟩:=aj hp0 hE;have np0:¬D.own p0:=aC (D:=D.more _) kp2.dk hp0;have kp3:=kp2.trans (Kp.of kp2.dk S3);lk;refine bi kp3 (by omega) (by omega) (by omega) λx3 H4 x30 x31 o4 kp4=>?_
 have ex:∃m:Int,atI [V.int x1,V.int x2] x3=some (.int m)/\0<=m/\m<=4:=by
  have:x3=0\/x3=1:=by omega
  rcases this with rfl|rfl
  ·exact⟨x1,rfl,x10,by omega⟩
  exact⟨x2,rfl,x20,by omega⟩
 obtain⟨m,em,m0,m4⟩:=ex;refine bj (SqL.of (o4 _ _ q3 np0)) em ?_;lk;refine⟨D.more 3,(1+m).toNat,by rw[show (((1+m).toNat:Nat):Int)=1+m by omega];rfl,kp4.dk,by show D.n+3<50000;omega,by omega,by omega,λnl ws H5 kp5 hnl wl wnd wlow qn=>?_⟩;have kpa:Kp (D.more 203) H H5:=kp4.trans (kp5.le (Qg _));have nlH:H nl=none:=kp4.free hnl;clear hE q3 S3 o1 o2 o4 kp1 kp2 kp3 kp5;have w1:1<=ws.length:=by omega
 have w5:ws.length<=5:=by omega
 kt_k;kt_k;with_reducible refine s_asg ?_
 refine wa rfl qn (by omega) λtl tv H8 S58 htl qtl pt=>?_;have kp8:=kpa.trans (Kp.of kpa.dk S58);have htlH:H tl=none:=kpa.free htl;have tl_:=am pt;have atl:=dD ws;refine aA ?_;lk;refine⟨D.more 203,tl,tv,rfl,kp8.dk,SqL.of qtl,by show D.n+203<50000;omega,by omega,λol ov H9 kp9 hol pm qol=>?_⟩;obtain⟨ots,pot,pmo⟩:=Ht.paired_perm pm pt;have no8:∀b,H b=none->¬D.own b:=λb hb=>aC DA hb;have kt9:a9 H8 H9:=Kp.tups (D:=(D.more 203).more 100) (kp8.dk.le (QM _ _)) kp9;have kpb:Kp (D.more 303) H H9:=kp8.trans (kp9.le (Qg _));have holH:H ol=none:=kp8.free hol;have po9:Paired (TuA H9) ov ots:=ad (λ_ _ h=>h.kt kt9) pot;have all:∀t,t∈ots↔ca ws t:=λt=>pmo.mem_iff.trans bS;have otl:ots.length=2*ws.length:=by rw[pmo.length_eq,atl]
 have qn9:=kp9.old _ _ (S58 _ _ qn) (no8 _ nlH);lk;refine⟨D.more 303,ol,nl,ov,ots,ws,rfl,kpb.dk,by show D.n+303<50000;omega,qol,po9,qn9,all,by omega,by omega,w5,λLm kvs H10 kp10 hLm md=>?_⟩;have kpc:Kp (D.more 373) H H10:=kpb.trans (kp10.le (Qg _));have hLmH:H Lm=none:=kpb.free hLm;have kt10:a9 H9 H10:=Kp.tups (D:=(D.more 303).more 70) (kpb.dk.le (QM _ _)) kp10
 have no:∀b∈[nl,tl,ol,Lm],¬D.own b:=λb hb=>by
  simp only[Qj,QE,Xi]at hb;rcases hb with rfl|rfl|rfl|rfl
  ·exact no8 _ nlH
  ·exact no8 _ htlH
  ·exact no8 _ holH
  exact no8 _ hLmH
 have ri:RI D H H10 nl tl ol Lm ws tv (bW ws) ov ots kvs 52 373:=⟨kpc,kp10.old _ _ qn9 (no8 _ nlH),kp10.old _ _ (kp9.old _ _ qtl (no8 _ htlH)) (no8 _ htlH),ad (λ_ _ h=>(h.kt kt9).kt kt10) pt,kp10.old _ _ qol (no8 _ holH),ad (λ_ _ h=>h.kt kt10) po9,md⟩;clear kt10 kpc kp10 md po9 kt9 kpb kp9 kp8 S58 pot pm pt qtl qol qn9;lk;refine⟨tl,rfl,⟨_,SqL.of ri.tl⟩,?_⟩;let I19:IvF:=λi σ H'=>∃kvs y5 y6,σ=[some (.ref D.d),some (.ref nl),some (.ref tl),some (.ref ol),some (.ref Lm),y5,y6,none,none,none,none,none,none,none,none]/\RI D H H' nl tl ol Lm ws tv (bW ws) ov ots kvs (52+i) (373+i)/\∀t∈(bW ws).take i,∃p:Pr,tkR p∈kvs.map (·.1)/\p.2=t;refine bY (xs:=tv) I19 ⟨kvs,_,_,rfl,ri,λt h=>by simp at h⟩ (λi σ H' _ ⟨_,_,_,_,ri,_⟩=>SqL.of ri.tl) (λi x σ H' ex h=>?_) (λσ H' h=>?_)
 ·obtain⟨kvs,y5,y6,rfl,ri,inc⟩:=h;obtain⟨t,et,tu⟩:=paired_get ri.tp ex;have tkt:ca ws t:=bS.mp (Qh et);have hi:=(Qc.mp ex).1;have kl:=ri.md.l
  have inc':∀kvs':List (av × V),(∀k∈kvs.map (·.1),k∈kvs'.map (·.1))->(∃p:Pr,tkR p∈kvs'.map (·.1)/\p.2=t)->∀t∈(bW ws).take (i+1),∃p:Pr,tkR p∈kvs'.map (·.1)/\p.2=t:=λkvs' sub new t' ht'=>by
   rw[XI,et]at ht';rcases Qz.mp ht' with h|h
   ·obtain⟨p,h1,h2⟩:=inc t' h;exact⟨p,sub _ h1,h2⟩
   have:t'=t:=by simpa using h
   rw[this];exact new
  refine aA ?_;lk;refine⟨Lm,_,.inl ri.md.h,trivial,λo=>?_⟩;refine b_ (aP rfl ⟨Lm,o,kvs,rfl,ag,λLc hLc=>?_⟩)
  classical
  have ktz:a9 H' (upd H' Lm (.frz o (.dT kvs))):=dI ri.md.h;refine wm (λkv=>decide (∃p:Pr,kv.1=tkR p/\p.2=t)) (λH v kv=>True) hLc ag (by omega) (λ_ _ _ _ _ h=>h) (λkv b H2 mk tb S2 G N hG hN=>?_) (λH2 ys S2 hy pz=>?_)
  ·obtain⟨p,ek,pok,_⟩:=ri.md.ok kv mk;rw[ek]at tb;obtain⟨_,v1,v2,e,hb,h1,h2⟩:=PrA.of tb;cases e;refine aA ⟨⟨rfl,trivial⟩,?_⟩;lk;refine gh h2 ((tu.kt ktz).kt (ak.tups S2)) ⟨_,rfl,?_⟩;by_cases ce:p.2=t
   ·refine ifT (Qu ce) ?_;lk;exact hG (Qu ⟨p,ek,ce⟩) _ H2 (ak.refl _) trivial
   exact ifF (Qw ce) (hN (Qw λ⟨q,e1,e2⟩=>ce (by rw[j0 (ek.symm.trans e1)];exact e2)) H2 (ak.refl _))
  have ncm:Lc≠Lm:=λz=>by rw[z,ag]at hLc;cases hLc
  refine⟨S2 _ _ ag,pE (by rw[bK ncm];exact hy) λH3 S3=>?_⟩;have ri3:=ri.same ((jn S2).trans S3);have tu3:=tu.kt (ak.tups ((jn S2).trans S3));by_cases c0:ys.length=0
  ·refine ifT (Qu c0) ?_;have tl3:=ri3.tl;lk;refine bi ri3.kp (by omega) (by omega) (by omega) λr H4 r0 r1 o4 kp4=>?_;have ri4:=ri3.draw no o4 kp4;have tu4:=tu3.kt (ri3.kp.kt o4);obtain⟨v6,e6,hv6⟩:=kY (xs:=tv) (i:=r) (by omega) r1;obtain⟨t6,ht6,tu6⟩:=dq ri4.tp hv6;refine bj (SqL.of ri4.tl) e6 ?_;refine aA ?_;obtain⟨ta,rfl,hta⟩:=id tu4;let I20:IvJ:=λσ G=>∃vo to,σ=[some (.ref D.d),some (.ref nl),some (.ref tl),some (.ref ol),some (.ref Lm),some (.ref ta),some vo,none,none,none,none,none,none,none,none]/\ak H4 G/\TuA G vo to/\ca ws to/\to≠t;with_reducible refine dj I20 (λRR hJ=>?_) (λσ G h=>?_)
   ·lk;refine gh tu6 tu4 ⟨_,rfl,?_⟩;by_cases ce:t6=t
    ·refine ifT (Qu ce) ?_;lk;obtain⟨c,ec,ec2⟩:=xR tkt.2;refine fS (by decide) ec ?_;rw[ec2];lk;refine⟨by simp[sizeLine],λp5 h5=>?_⟩;exact hJ _ _ ⟨_,_,rfl,ar h5,⟨p5,rfl,ag⟩,xQ tkt⟩
    exact ifF (Qw ce) (s_next (hJ _ _ ⟨_,_,rfl,ak.refl _,tu6,bS.mp ht6,ce⟩))
   obtain⟨vo,to,rfl,SG,tuo,tko,ne⟩:=h;have riG:=ri4.same SG;have tuG:=tu4.kt (ak.tups SG);have olG:=riG.ol;refine fg ?_;lk;refine cq olG riG.op tuo ((all _).mpr tko) ?_;lk;refine cq olG riG.op tuG ((all _).mpr tkt) ?_;lk;refine⟨by simp[sizeLine],λp3 h3=>?_⟩;have hm:=bit (decide (((ots.idxOf t:Nat):Int)<(ots.idxOf to:Nat)));generalize (if (decide (((ots.idxOf t:Nat):Int)<(ots.idxOf to:Nat)))=true then (1:Int) else 0)=m at hm ⊢;generalize hE:upd G p3 _=H5;obtain⟨S5,q5⟩:=aj h3 hE;have pa5:PrA H5 (.ref p3) (to,t):=⟨p3,_,_,rfl,q5,tuo.kt (ak.tups S5),tuG.kt (ak.tups S5)⟩;have ri5:=riG.same S5;refine⟨Lm,_,rfl,fX.t ri5.md.h pa5.tk (by omega),?_⟩;have d:=ri5.md.put (H':=upd H5 Lm (.dT (bq kvs (tkR (to,t)) (.int m)))) (p:=(to,t)) (m:=m) ⟨tko,tkt,ne⟩ hm ag;refine⟨_,_,_,rfl,ri5.set DA hLmH d,inc' _ (λk hk=>?_) ⟨(to,t),?_,rfl⟩⟩
   ·rcases du kvs (tkR (to,t)) (.int m) with⟨_,e⟩|⟨_,e⟩
    ·rw[e];exact hk
    rw[e];exact Xa _ hk
   rcases du kvs (tkR (to,t)) (.int m) with⟨h,e⟩|⟨_,e⟩
   ·rw[e];exact h
   rw[e];exact QI _ (List.mem_singleton_self _)
  refine ifF (Qw c0) (s_next ⟨kvs,_,_,rfl,ri3.up (by omega) (by omega),inc' kvs (λ_ h=>h) ?_⟩);have pl:=am pz
  cases hf:kvs.filter λkv=>decide (∃p:Pr,kv.1=tkR p/\p.2=t) with
  | nil=>rw[hf]at pl;exact absurd pl c0
  | cons kv r =>
  have:kv∈kvs.filter λkv=>decide (∃p:Pr,kv.1=tkR p/\p.2=t):=by rw[hf];simp
  obtain⟨m1,m2⟩:=QP.mp this;obtain⟨p,e1,e2⟩:=Xv m2;exact⟨p,Ql.mpr ⟨kv,m1,e1⟩,e2⟩
 obtain⟨kvs,y5,y6,rfl,ri,inc⟩:=h;rw[Q8 (Nat.le_of_eq tl_.symm)]at inc;have ri:=ri.up (n':=62) (c':=383) (by omega) (by omega)
 have kpos:∀kvs:List (av × V),(∀t∈bW ws,∃p:Pr,tkR p∈kvs.map (·.1)/\p.2=t)->1<=kvs.length:=λkvs inc=>by
  cases ws with
  | nil=>simp at w1
  | cons n ws =>
  obtain⟨p,hp,_⟩:=inc (n, "+") (bS.mpr ⟨by simp,.inl rfl⟩);have:=List.length_pos_of_mem hp;rwa [Qd]at this
 let I21:IvJ:=λσ G=>∃kvs y7,σ=[some (.ref D.d),some (.ref nl),some (.ref tl),some (.ref ol),some (.ref Lm),y5,y6,y7,none,none,none,none,none,none,none]/\RI D H G nl tl ol Lm ws tv (bW ws) ov ots kvs 62 390/\∀t∈bW ws,∃p:Pr,tkR p∈kvs.map (·.1)/\p.2=t;with_reducible refine dj I21 (λRR hJ=>?_) (λσ G h=>?_)
 ·lk;refine bi ri.kp (by omega) (by omega) (by omega) λr H2 r0 r1 o2 kp2=>?_;have ri2:=ri.draw no o2 kp2;lk;cases decide (V.int r=V.int 0)
  ·exact iteF (s_next (hJ _ _ ⟨kvs,_,rfl,ri2.up (by omega) (by omega),inc⟩))
  refine iteT ?_;lk;refine ri2.md.sort (by decide) λp vs ps hp pp pm so=>?_;generalize hE:upd H2 p _=H3;obtain⟨S3,q3⟩:=aj hp hE;have ri3:=ri2.same S3;have np:¬D.own p:=aC (D:=D.more _) ri2.kp.dk hp;have kl:=ri3.md.l;have kp1:=kpos kvs inc
  have vl:vs.length=kvs.length:=by
   have:=pm.length_eq;rw[Qd,Qd]at this;rw[am pp,this]
  lk;refine⟨Lm,kvs,rfl,ri3.md.h,?_⟩;lk;refine bi ri3.kp (by omega) (by omega) (by omega) λr H4 r0 r1 o4 kp4=>?_;have ri4:=ri3.draw no o4 kp4;obtain⟨v7,e7,hv7⟩:=kY (xs:=vs) (i:=r) (by omega) (by omega);obtain⟨pr,hpr,pa⟩:=dq pp hv7;refine bj (SqL.of (o4 _ _ q3 np)) e7 ?_;have pa4:=(pa.kt (ak.tups S3)).kt (ri3.kp.kt o4);obtain⟨b7,_,_,rfl,_⟩:=id pa4;have hk:tkR pr∈kvs.map (·.1):=pm.mem_iff.mp (Ql.mpr ⟨pr,hpr,rfl⟩);obtain⟨pok,m,ev,hm⟩:=ri4.md.val hk;refine aA ?_;with_reducible refine fg ?_
  lk;refine⟨Lm,_,rfl,by have z:=cN.t ri4.md.h pa4.tk;rw[ev]at z;exact z,?_⟩;lk;refine⟨Lm,_,rfl,fX.t ri4.md.h pa4.tk (by omega),?_⟩;have d:=ri4.md.set (H':=upd H4 Lm (.dT (bq kvs (tkR pr) (.int (1-m))))) (p:=pr) (m:=1-m) hk pok (by omega) ag;refine hJ _ _ ⟨_,_,rfl,(ri4.set DA hLmH d).up (by omega) (by omega),λt ht=>?_⟩;obtain⟨q,h1,h2⟩:=inc t ht;refine⟨q,?_,h2⟩;rcases du kvs (tkR pr) (.int (1-m)) with⟨_,e⟩|⟨_,e⟩
  ·rw[e];exact h1
  rw[e];exact Xa _ h1
 obtain⟨kvs,y7,rfl,ri,inc⟩:=h;have nl3:=ri.nl;lk;rw[Qd];refine bi ri.kp (by omega) (by omega) (by omega) λod H2 r0 r1 o2 kp2=>?_;have ri:=ri.draw no o2 kp2;have nl3:=ri.nl;lk;refine i_cons (aP rfl (bo ⟨nl,rfl,⟨_,SqL.of nl3⟩,?_⟩));let I22:IvF:=λi σ H'=>∃z y10 y11 y12,σ=[some (.ref D.d),some (.ref nl),some (.ref tl),some (.ref ol),some (.ref Lm),y5,y6,y7,some (.int od),some (.str z),y10,y11,y12,none,none]/\RI D H H' nl tl ol Lm ws tv (bW ws) ov ots kvs 62 391/\StOk i z;refine iG (xs:=ws.map V.str) I22 ⟨_,_,_,_,rfl,ri,⟨rfl,λc hc=>nomatch hc⟩⟩ (λi σ H' _ ⟨_,_,_,_,_,ri,_⟩=>SqL.of ri.nl) (λi x σ H' TA ex h hT=>?_) (λσ H' h=>?_)
 ·obtain⟨z,y10,y11,y12,rfl,ri,st⟩:=h;have hi:=(Qc.mp ex).1;rw[Qq]at ex;obtain⟨n,en,rfl⟩:=Xu.mp ex;have mn:=Qh en;generalize hE:upd H' TA _=H2;obtain⟨S2,q2⟩:=aj hT hE;have ri2:=ri.same S2;have ol2:=ri2.ol;refine⟨TA,_,rfl,SqT.of q2,rfl,_,_,rfl,aA ⟨_,_,rfl,aA ⟨rfl,?_⟩⟩⟩;lk;refine⟨by simp[sizeLine],λp3 h3=>?_⟩;generalize hE:upd H2 p3 _=H3;obtain⟨S3,q3⟩:=aj h3 hE;have ri3:=ri2.same S3;have ol3:=ri3.ol;lk;refine cq (t:=(n, "-")) ol3 ri3.op ⟨p3,rfl,q3⟩ ((all _).mpr ⟨mn,.inr rfl⟩) ?_;lk;refine⟨by simp[sizeLine],λp4 h4=>?_⟩;generalize hE:upd H3 p4 _=H4;obtain⟨S4,q4⟩:=aj h4 hE;have ri4:=ri3.same S4;lk;refine cq (t:=(n, "+")) ri4.ol ri4.op ⟨p4,rfl,q4⟩ ((all _).mpr ⟨mn,.inl rfl⟩) ?_;lk;obtain⟨c,ec,hc⟩:=Ak (_+_);refine fS (by decide) ec ?_;have zl:z.length=i:=st.len;rw[Qd]at hi;refine⟨z,_,rfl,rfl,by show z.length+1<=_;omega,?_⟩;exact⟨_,_,_,_,rfl,ri4,pf st hc⟩
 obtain⟨z,y10,y11,y12,rfl,ri,st⟩:=h;rw[Qd]at st;lk;refine b_ (s_list (i_cb (i_cons (aP rfl (bo (ri.md.sort (by decide) λp vs ps hp pp pm so=>?_))))));generalize hE:upd H' p _=H2;obtain⟨S2,q2⟩:=aj hp hE;have ri2:=ri.same S2;refine⟨p,rfl,⟨_,SqL.of q2⟩,λLa hLa=>?_⟩
 have pl:ps.length<=62:=by
  have:=pm.length_eq;have:=ri.md.l;simp only[Qd] at *;omega
 have hk:∀x∈ps,tkR x∈kvs.map (·.1):=λx hx=>pm.mem_iff.mp (Ql.mpr ⟨x,hx,rfl⟩);refine eN (λ_=>true) (λH v x=>ArA H v (m9 kvs x)) hLa q2 pp (by omega) (λH H' v x k h=>h.kt k) (λv x H3 pa mx S3 G N hG _=>?_) (λH3 ys S3 hy py=>?_)
 ·obtain⟨b,v1,v2,rfl,hb,t1,t2⟩:=pa.kt (ak.tups (S2.trans S3));have ri3:=ri2.same S3;obtain⟨pok,ev,hm⟩:=mr ri3.md (hk x mx);have pa3:PrA H3 (.ref b) x:=⟨b,v1,v2,rfl,hb,t1,t2⟩;refine aA ⟨⟨rfl,trivial⟩,i_yes (iteT ?_)⟩;lk;refine⟨Lm,_,rfl,by have z:=cN.t ri3.md.h pa3.tk;rw[ev]at z;exact z,?_⟩;lk;refine⟨by simp[sizeLine],λp4 h4=>?_⟩;have S4:=ar (o:=.tup [v1,v2,.int (n9 kvs x)]) h4;exact hG rfl _ _ S4 ⟨p4,_,_,rfl,ag,t1.kt (ak.tups S4),t2.kt (ak.tups S4)⟩
 rw[dy]at py;have py:=bP (f:=m9 kvs) py;have ri3:=ri2.same S3;have hLaH:H La=none:=ri2.kp.free hLa;have nl3:=ri3.nl;lk;refine⟨5,_,rfl,?_⟩;rw[Qd];lk;refine bi ri3.kp (by omega) (by split <;> omega) (by split <;> omega) λr H4 r0 r1 o4 kp4=>?_;have ri4:=ri3.draw no o4 kp4
 have rl:r.toNat<ws.length:=by
  have:r<ws.length:=by
   split at r1 <;> omega
  omega
 obtain⟨j,rfl⟩:∃j:Nat,r=(j:Int):=⟨r.toNat,by omega⟩;rw[Q2]at rl;have nl4:=ri4.nl;have hya:=o4 _ _ hy (no8 _ hLaH);have py4:=ad (λ_ _ h=>ArA.kt (ri3.kp.kt o4) h) py;lk;refine p8 (SqL.of nl4) λli hli=>?_;rw[uJ (by rw[Qd];omega),<-List.map_take];generalize hE:upd H4 li _=H5;obtain⟨S5,q5⟩:=aj hli hE;have nl5:=S5 _ _ nl4;lk;refine p8 (SqL.of nl5) λlo hlo=>?_;rw[mU (by rw[Qd];omega),<-List.map_drop];generalize hE:upd H5 lo _=H6;obtain⟨S6,q6⟩:=aj hlo hE;lk;refine⟨by simp[sizeLine],λa h7=>?_⟩;generalize hE:upd H6 a _=H7;obtain⟨S7,q7⟩:=aj h7 hE;have S47:=(S5.trans S6).trans S7;have kp7:=kp4.trans (Kp.of kp4.dk S47);have ews:(⟨ws.take j,ws.drop j,z,ps.map (m9 kvs)⟩:Rg).ws=ws:=XX _ _;refine k a li lo La ys ⟨ws.take j,ws.drop j,z,ps.map (m9 kvs)⟩ H7 (kp7.up (by omega)) (λb hb=>?_) ⟨q7,S7 _ _ (S6 _ _ q5),S7 _ _ q6,S47 _ _ hya,ad (λ_ _ h=>h.kt (ak.tups S47)) py4⟩ ⟨?_,?_,?_,?_,?_,?_⟩ ?_ ⟨?_,?_,?_⟩
 ·simp only[Qj,QE,Xi]at hb;rcases hb with rfl|rfl|rfl|rfl
  ·exact kp4.free (bJ (S5.trans S6) h7)
  ·exact kp4.free hli
  ·exact kp4.free (bJ S5 hlo)
  exact hLaH
 ·rw[ews];exact wnd
 ·rw[ews];exact w1
 ·rw[ews];exact w5
 ·rw[ews];exact st
 ·show (ps.map _).length<=_;rw[Qd];omega
 ·rw[ews];intro x hx;obtain⟨q,hq,rfl⟩:=Ql.mp hx;obtain⟨pok,_,hm⟩:=mr ri.md (hk q hq);exact⟨pok.o,pok.t,pok.ne,hm⟩
 ·intro t ht;rw[ews]at ht;obtain⟨q,h1,h2⟩:=inc t (bS.mpr ht);obtain⟨q',hq',e⟩:=Ql.mp (pm.mem_iff.mpr h1);exact⟨m9 kvs q',Ql.mpr ⟨q',hq',rfl⟩,by rw[<-j0 e]at h2;exact h2⟩
 ·rw[ews];exact wlow
 ·show (ws.take j).length<=4;rw[QN];omega
 show 1<=(ws.drop j).length;rw[XB];omega
end
theorem ip [DecidableEq α] {xs:List α} (nd:xs.Nodup) {x:α} (h1:xs[i]?=some x) (h2:xs[j]?=some x):i=j:=by
 obtain⟨l1,e1⟩:=Qc.mp h1;obtain⟨l2,e2⟩:=Qc.mp h2;have a:=nd.idxOf_getElem i l1;have b:=nd.idxOf_getElem j l2;rw[e1]at a;rw[e2]at b;exact a.symm.trans b
theorem dX (st:StOk n z) (hi:i<n) (hj:j<n):sgB (cA z i) j=if j=i then !sgB z j else sgB z j:=by
 have hl:=st.len;have e:=turn_list st hi;have g:∀(w:Str) k,w.cps.getD k 0=w.cps.toList.getD k 0:=λw k=>by simp[QY,Qo]
 unfold sgB;rw[g (cA z i),g z,e];have zl:z.cps.toList.length=n:=by simpa using hl
 by_cases c:j=i
 ·subst c;rw[Qs rfl,Qo,QJ (by rw[QN];omega),QN,Nat.min_eq_left (by omega),Nat.sub_self,List.getElem?_cons_zero,Option.getD_some,g z];cases q:(z.cps.toList.getD j 0==49) <;> rfl
 rw[Qn c];by_cases l:j<i
 ·rw[Qo,QG (by rw[QN];omega),List.getElem?_take_of_lt l,<-Qo]
 rw[Qo,QJ (by rw[QN];omega),QN,Nat.min_eq_left (by omega)];obtain⟨k,hk⟩:∃k,j-i=k+1:=⟨j-i-1,by omega⟩;rw[hk,List.getElem?_cons_succ,List.getElem?_drop,show i+1+k=j by omega,<-Qo]
theorem ke (hy:StOk n y) (hz:StOk n z) (h:∀i,i<n->sgB y i=sgB z i):y=z:=by
 have ly:=hy.len;have lz:=hz.len
 have e:y.cps=z.cps:=by
  refine Array.ext (ly.trans lz.symm) λi h1 h2=>?_;have:=h i (by omega);unfold sgB at this;have g1:y.cps.getD i 0=y.cps[i]:=by simp[Array.getD,h1]
  have g2:z.cps.getD i 0=z.cps[i]:=by simp[Array.getD,h2]
  rw[g1,g2]at this;rcases hy.signs _ (Array.getElem_mem_toList h1) with a|a <;> rcases hz.signs _ (Array.getElem_mem_toList h2) with b|b <;> rw[a,b]at this ⊢ <;> simp at this
 cases y;cases z;cases e;rfl
theorem qG (st:StOk n z) (hi:i<n) (hj:j<n):cA (cA z i) j=cA (cA z j) i:=by
 refine ke (cP (cP st hi) hj) (cP (cP st hj) hi) λk hk=>?_;rw[dX (cP st hi) hj hk,dX (cP st hj) hi hk,dX st hi hk,dX st hj hk];by_cases a:k=i
 ·subst a;by_cases b:k=j
  ·rw[Qs rfl,Qs b,Qs b,Qs rfl]
  rw[Qs rfl,Qn b,Qn b,Qs rfl]
 by_cases b:k=j
 ·rw[Qs b,Qn a,Qn a,Qs b]
 rw[Qn b,Qn a,Qn a,Qn b]
theorem v4 {ws:List Str} {x:Str} (hx:x∈ws) (hy:y∈ws) (e:ws.idxOf x=ws.idxOf y):x=y:=by
 have a:=gg hx;rw[e,gg hy]at a;exact(QC a).symm
theorem oV (as:List Arc) (t:Tu):∀(ms:List Int),as.zip (dr as ms t)=(as.zip ms).map λq=>(q.1,mkB q.1 q.2 t):=by
 induction as with
 | nil=>intro ms;rfl
 | cons a as ih =>
 intro ms
 cases ms with
 | nil=>rfl
 | cons m ms =>
 show (a,mkB a m t)::as.zip (dr as ms t)=_;rw[ih];rfl
def mkD (a:Arc) (t:Tu):Int:=if a.one=t then 1 else if a.two=t then -1 else 0
theorem wZ (a:Arc) (m:Int) (t:Tu):mkB a m t=m+mkD a t:=by
 unfold mkB mkD;by_cases c:a.one=t
 ·rw[Qs c,Qs c]
 rw[Qn c,Qn c];by_cases d:a.two=t
 ·rw[Qs d,Qs d];omega
 rw[Qn d,Qn d];omega
theorem t5 (as:List Arc) (ms:List Int) (t u:Tu):dr as (dr as ms t) u=dr as (dr as ms u) t:=by
 have e:∀t u,dr as (dr as ms t) u=(as.zip ms).map λq=>q.2+mkD q.1 t+mkD q.1 u:=λt u=>by
  show (as.zip (dr as ms t)).map (λq=>mkB q.1 q.2 u)=_;rw[oV,Xw];refine XJ λq _=>?_;show mkB q.1 (mkB q.1 q.2 t) u=_;rw[wZ,wZ]
 rw[e,e];refine XJ λq _=>?_;omega
theorem my {ms:List Int} {t u:Tu} (h:bT as ms u=true) (ne:t≠u):bT as (dr as ms t) u=true:=by
 unfold bT at h ⊢;rw[oV,List.all_map];refine QX.mpr λq hq=>?_;have:=QX.mp h q hq;show (!decide (q.1.two=u) || decide (0<mkB q.1 q.2 t))=true;by_cases c:q.1.two=u
 ·rw[Qu c,XZ,Bool.false_or,decide_eq_true_eq]at this ⊢;unfold mkB;by_cases d:q.1.one=t
  ·rw[Qs d];omega
  rw[Qn d,Qn (λz=>ne (z.symm.trans c))];exact this
 rw[Qw c];rfl
theorem qJ {p:Pl} (po:PlOk r p) {t u:Tu} (ht:ca r.ws t) (hu:ca r.ws u):(a7 r (a7 r p t).2 u).2=(a7 r (a7 r p u).2 t).2 :=
 Prod.ext (t5 _ _ _ _) (qG po.z (QA ht.1) (QA hu.1))
section
variable {r:Rg} {ts:List Tu} {ps:List Pl} {nds:List Nd}
theorem ShtP.two (S:ShtP r ts ps nds) (ok:RgOk r) (wt:Wt r ts) {p:Pl} (hp:p∈ps) {t u:Tu} (ht:t∈ts) (mt:bT r.arcs p.1 t=true) (hu:u∈ts) (mu:bT r.arcs p.1 u=true) (ne:u≠t) :
  (u.1,ps.idxOf (a7 r (a7 r p t).2 u).2)∈cO r ts ps (a7 r p t).2/\(t.1,ps.idxOf (a7 r (a7 r p t).2 u).2)∈cO r ts ps (a7 r p u).2:=by
 refine⟨Ql.mpr ⟨u,QP.mpr ⟨hu,my mu (Ne.symm ne)⟩,rfl⟩,?_⟩;rw[qJ (S.ok p hp) (Wt.ok ok wt ht) (Wt.ok ok wt hu)];exact Ql.mpr ⟨t,QP.mpr ⟨ht,my mt ne⟩,rfl⟩
end
def plB (r:Rg) (w:List Tu):Pl:=w.foldl (λp t=>(a7 r p t).2) (mks r.arcs,r.z)
theorem fJ (r:Rg) (w:List Tu) (t:Tu):plB r (w++[t])=(a7 r (plB r w) t).2:=by unfold plB;rw[List.foldl_append];rfl
structure MayOk (r:Rg) (ts:List Tu) (p:Pl) (t:Tu):Prop where
 mt:t∈ts
 ok:PlOk r p
 may:bT r.arcs p.1 t=true
def lf (r:Rg) (ts:List Tu) (w:List Tu):Prop:=∀k t,w[k]?=some t->MayOk r ts (plB r (w.take k)) t/\cT r (plB r (w.take k)).2 (a7 r (plB r (w.take k)) t)=none
theorem lf.snoc {w:List Tu} {t:Tu} (h:lf r ts w) (m:MayOk r ts (plB r w) t) (o:cT r (plB r w).2 (a7 r (plB r w) t)=none):lf r ts (w++[t]):=λk u hk=>by
 by_cases c:k<w.length
 ·rw[QG c]at hk;rw[List.take_append_of_le_length (XT c)];exact h k u hk
 have hl:=(Qc.mp hk).1;rw[Qi,QK]at hl;obtain rfl:k=w.length:=by omega
 rw[QJ (Qg _),Nat.sub_self]at hk;cases hk;rw[List.take_append_of_le_length (Qg _),List.take_length];exact⟨m,o⟩
structure WsOk (r:Rg) (ts:List Tu) (x:Sx):Prop where
 l:x.ws.length=x.ps.length
 n:∀w∈x.ws,w.length<x.ws.length
 w:∀(i:Nat) (w:List Tu),x.ws[i]?=some w->x.ps[i]?=some (plB r w)/\lf r ts w
structure OddOk (r:Rg) (ts:List Tu) (w:List Tu) (t:Tu) (wd:Str):Prop where
 wy:lf r ts w
 m:MayOk r ts (plB r w) t
 o:cT r (plB r w).2 (a7 r (plB r w) t)=some wd
theorem jI {r:Rg} {row:Str} {way:List Tu}:∀{ss:List Sp1} {x:Sx} {nd:Nd} {w:List Tu} {wd:Str},bu r row way ss x nd=.inl (.odd w wd)->∃s∈ss,w=way++[s.1]/\cT r row s=some wd
 | [],x,nd,w,wd,h=>by unfold bu at h;cases h
 | s::ss,x,nd,w,wd,h=>by
  unfold bu at h
  cases co:cT r row s with
  | some w' =>
   rw[co]at h;cases h;exact⟨s,by simp,rfl,co⟩
  | none =>
  rw[co]at h;dsimp only at h
  have go:∀{x nd},bu r row way ss x nd=.inl (.odd w wd)->∃s'∈s::ss,w=way++[s'.1]/\cT r row s'=some wd:=λq=>by
   obtain⟨s',hs,e⟩:=jI q;exact⟨s',Qp _ hs,e⟩
  by_cases c:s.2∈x.ps
  ·rw[Qs c]at h;exact go h
  rw[Qn c]at h;by_cases c40:x.ps.length=40
  ·rw[Qs c40]at h;cases h
  rw[Qn c40]at h;exact go h
theorem eB {r:Rg} {ts:List Tu} {way:List Tu} (hw:lf r ts way):∀{ss:List Sp1} {x x':Sx} {nd nd':Nd},way.length<x.ws.length->(∀s∈ss,∃t,s=a7 r (plB r way) t/\MayOk r ts (plB r way) t)->WsOk r ts x->bu r (plB r way).2 way ss x nd=.inr (x',nd')->WsOk r ts x'
 | [],x,x',nd,nd',hl,hs,o,h=>by unfold bu at h;cases h;exact o
 | s::ss,x,x',nd,nd',hl,hs,o,h=>by
  unfold bu at h;have hs':∀s∈ss,∃t,s=a7 r (plB r way) t/\MayOk r ts (plB r way) t:=λs h=>hs s (Qp _ h)
  cases co:cT r (plB r way).2 s with
  | some w'=>rw[co]at h;cases h
  | none =>
  rw[co]at h;dsimp only at h;by_cases c:s.2∈x.ps
  ·rw[Qs c]at h;exact eB hw hl hs' o h
  rw[Qn c]at h;by_cases c40:x.ps.length=40
  ·rw[Qs c40]at h;cases h
  rw[Qn c40]at h;refine eB hw (by show _<(x.ws++[_]).length;rw[Qi];omega) hs' ⟨?_,λw hw'=>?_,λi w hi=>?_⟩ h
  ·show (x.ws++[_]).length=(x.ps++[_]).length;rw[Qi,Qi,o.l];rfl
  ·show _<(x.ws++[_]).length;rw[Qi,QK];rcases Qz.mp hw' with h|h
   ·have:=o.n w h;omega
   rw[Qv.mp h,Qi,QK];omega
  have hi:(x.ws++[way++[s.1]])[i]?=some w:=hi;show (x.ps++[s.2])[i]?=_/\_;obtain⟨t,rfl,m⟩:=hs s (by simp);by_cases l:i<x.ws.length
  ·rw[QG l]at hi;obtain⟨h1,h2⟩:=o.w i w hi;exact⟨by rw[QG (by rw[<-o.l];exact l)];exact h1,h2⟩
  have hl:=(Qc.mp hi).1;rw[Qi,QK]at hl;obtain rfl:i=x.ws.length:=by omega
  rw[QJ (Qg _),Nat.sub_self]at hi;cases hi;refine⟨?_,hw.snoc m co⟩;rw[o.l,QJ (Qg _),Nat.sub_self];show some (a7 r (plB r way) t).2=some (plB r (way++[t]));rw[fJ]
theorem jx {r:Rg} {ts:List Tu} (ok:RgOk r) (wt:Wt r ts):∀{f:Nat} {x:Sx} {nds:List Nd} {w:List Tu} {wd:Str},OuO r ts x nds->WsOk r ts x->outer r ts f x nds=.odd w wd->∃v t,w=v++[t]/\v.length<=100/\OddOk r ts v t wd
 | 0,x,nds,w,wd,o,ow,h=>by unfold outer at h;cases h
 | f+1,x,nds,w,wd,o,ow,h=>by
  unfold outer at h;by_cases c:nds.length<x.ps.length
  ·rw[Qs c]at h;have gp:=Sx.p_mem c;have gw:=Sx.w_mem (x:=x) (i:=nds.length) (by rw[ow.l];exact c);obtain⟨e1,hwy⟩:=ow.w _ _ gw;have hln:=ow.n _ (Qh gw);have l40:=o.l40;have owl:=ow.l;have ep:x.p nds.length=plB r (x.wy nds.length):=QC (gp.symm.trans e1);have po:=o.ok _ (Qh gp);rw[ep]at h gp po;generalize x.wy nds.length=way at h gp po hwy hln
   have hs:∀s∈bH r ts (plB r way),∃t,s=a7 r (plB r way) t/\MayOk r ts (plB r way) t:=λs hs=>by
    obtain⟨t,ht,rfl⟩:=Ql.mp hs;obtain⟨ht,hm⟩:=QP.mp ht;exact⟨t,rfl,ht,po,hm⟩
   cases e:bu r (plB r way).2 way (bH r ts (plB r way)) x [] with
   | inl res =>
    rw[e]at h;dsimp only at h;rw[h]at e;obtain⟨s,ms,e2,co⟩:=jI e;obtain⟨t,rfl,m⟩:=hs s ms;exact⟨way,t,e2,by omega,hwy,m,co⟩
   | inr q =>
   obtain⟨x',nd⟩:=q;rw[e]at h;dsimp only at h;exact jx ok wt (o.step ok wt gp e) (eB hwy hln hs ow e) h
  rw[Qn c]at h;cases h
theorem uZ (ok:RgOk r) (wt:Wt r ts) {w:List Tu} (h:unf r ts=.odd w wd):∃v t,w=v++[t]/\v.length<=100/\OddOk r ts v t wd:=by
 refine jx (x:=Sx.first r) (nds:=[]) ok wt ⟨QT _,(by decide:1<=40),rfl,QS.mpr ⟨by simp,.nil⟩,λp hp=>?_,λi p hi=>absurd hi (X2 _),λj p hj=>?_,rfl⟩ ⟨rfl,λw hw=>by cases Qv.mp hw;exact Nat.zero_lt_one,λi w hi=>?_⟩ h
 ·cases Qv.mp hp;exact kG ok
 ·left
  have:=(Qc.mp hj).1;have:j<1:=this;omega
 have hl:=(Qc.mp hi).1;have hl:i<1:=hl;obtain rfl:i=0:=by omega
 have hi:some ([]:List Tu)=some w:=hi;cases hi;exact⟨rfl,λk t hk=>by cases hk⟩
structure RdOk (r:Rg) (d:List Tu) (p:Pl):Prop where
 len:p.1.length=r.arcs.length
 m:∀(i:Nat) (a:Arc),r.arcs[i]?=some a->p.1[i]?=some (a.mark+(if a.one∈d then 1 else 0)-(if a.two∈d then 1 else 0))
 st:StOk r.ws.length p.2
 s:∀x∈r.ws,sgB p.2 (r.ws.idxOf x)=xor (sgB r.z (r.ws.idxOf x)) (xor (decide (((x, "+"):Tu)∈d)) (decide (((x, "-"):Tu)∈d)))
theorem sQ (ok:RgOk r):RdOk r [] (mks r.arcs,r.z):=by
 refine⟨Qd ..,λi a h=>?_,ok.st,λx hx=>?_⟩
 ·show (mks r.arcs)[i]?=_;unfold mks;rw[Qq,h];simp
 simp
theorem vk (ok:RgOk r) {p:Pl} {t:Tu} (h:RdOk r d p) (tok:ca r.ws t) (nt:t∉d):RdOk r (d++[t]) (a7 r p t).2:=by
 refine⟨mo h.len,λi a ha=>?_,cP h.st (QA tok.1),λx hx=>?_⟩
 ·have hm:=h.m i a ha;have ne:=(ok.arcs a (Qh ha)).ne;show (dr r.arcs p.1 t)[i]?=_;unfold dr;rw[Qq,gt ha hm];show some (mkB a _ t)=_;unfold mkB;congr 1;dsimp only;simp only[Qz,Qv];by_cases c1:a.one=t
  ·have c2:a.two≠t:=λz=>ne (c1.trans z.symm);by_cases c3:a.two∈d <;> simp[c1,c2,c3,nt] <;> omega
  by_cases c2:a.two=t
  ·by_cases c3:a.one∈d <;> simp[c1,c2,c3,nt] <;> omega
  by_cases c3:a.one∈d <;> by_cases c4:a.two∈d <;> simp[c1,c2,c3,c4] <;> omega
 have xl:=QA hx;have tl:=QA tok.1;show sgB (cA p.2 (r.ws.idxOf t.1)) (r.ws.idxOf x)=_;rw[dX h.st tl xl,h.s x hx];by_cases c:x=t.1
 ·subst c;rw[Qs rfl];obtain⟨nm,sg⟩:=t;have pm:("-" : Str) ≠ "+" := by decide +kernel
  have nt':=Qw nt;rcases tok.2 with e|e
  ·have e:sg=("+" : Str):=e;subst e;have a1:decide ((nm,("+" : Str))∈d++[(nm,("+" : Str))])=true:=Qu (by simp);have a2:decide ((nm,("-" : Str))∈d++[(nm,("+" : Str))])=decide ((nm,("-" : Str))∈d):=Xs.mpr (by simp[pm]);rw[nt',a1,a2];cases sgB r.z (r.ws.idxOf nm) <;> cases decide ((nm,("-" : Str))∈d) <;> rfl
  have e:sg=("-" : Str):=e;subst e;have a1:decide ((nm,("-" : Str))∈d++[(nm,("-" : Str))])=true:=Qu (by simp);have a2:decide ((nm,("+" : Str))∈d++[(nm,("-" : Str))])=decide ((nm,("+" : Str))∈d):=Xs.mpr (by simp[pm.symm]);rw[nt',a1,a2];cases sgB r.z (r.ws.idxOf nm) <;> cases decide ((nm,("+" : Str))∈d) <;> rfl
 rw[Qn λz=>c (v4 hx tok.1 z)]
 have q:∀(y:Str),(((x,y):Tu)∈d++[t])=(((x,y):Tu)∈d):=λy=>by
  have:((x,y):Tu)≠t:=λz=>c (congrArg Prod.fst z);simp[this]
 rw[show decide (((x, "+"):Tu)∈d++[t])=decide (((x, "+"):Tu)∈d) by rw[Xs,q],show decide (((x, "-"):Tu)∈d++[t])=decide (((x, "-"):Tu)∈d) by rw[Xs,q]]
theorem vm (ok:RgOk r) {p:Pl} (h:RdOk r d p) (all:∀t,ca r.ws t->t∈d):p=(mks r.arcs,r.z):=by
 refine Prod.ext ?_ ?_
 ·refine XW λi=>?_;show p.1[i]?=(mks r.arcs)[i]?;unfold mks;rw[Qq]
  cases ha:r.arcs[i]? with
  | none =>
   have:=Xd.mp ha;exact Xd.mpr (by rw[h.len];exact this)
  | some a =>
  have aok:=ok.arcs a (Qh ha);rw[h.m i a ha,Qs (all _ aok.o),Qs (all _ aok.t)];show some _=some a.mark;congr 1;omega
 refine ke h.st ok.st λi hi=>?_;have hx:=QW hi;have ei:=ok.nd.idxOf_getElem i hi;generalize r.ws[i]=x at hx ei;rw[<-ei,h.s x hx,Qu (all _ ⟨hx,.inl rfl⟩),Qu (all _ ⟨hx,.inr rfl⟩)];cases sgB r.z (r.ws.idxOf x) <;> rfl
theorem fk {r:Rg} {ts:List Tu} {way:List Tu} (hw:lf r ts way):∀{ss:List Sp1} {x:Sx} {nd:Nd},way.length<x.ws.length->(∀s∈ss,∃t,s=a7 r (plB r way) t/\MayOk r ts (plB r way) t)->WsOk r ts x->x.ps.Nodup->bu r (plB r way).2 way ss x nd=.inl .many->∃x':Sx,WsOk r ts x'/\x'.ps.Nodup/\x'.ps.length=40
 | [],x,nd,hl,hs,o,n,h=>by unfold bu at h;cases h
 | s::ss,x,nd,hl,hs,o,n,h=>by
  unfold bu at h;have hs':∀s∈ss,∃t,s=a7 r (plB r way) t/\MayOk r ts (plB r way) t:=λs h=>hs s (Qp _ h)
  cases co:cT r (plB r way).2 s with
  | some w'=>rw[co]at h;cases h
  | none =>
  rw[co]at h;dsimp only at h;by_cases c:s.2∈x.ps
  ·rw[Qs c]at h;exact fk hw hl hs' o n h
  rw[Qn c]at h;by_cases c40:x.ps.length=40
  ·exact⟨x,o,n,c40⟩
  rw[Qn c40]at h
  have one:bu r (plB r way).2 way [s] x []=.inr (⟨x.ps++[s.2],x.ws++[way++[s.1]]⟩,[(s.1.1,x.ps.length)]):=by
   unfold bu;rw[co];dsimp only;rw[Qn c,Qn c40];unfold bu;rfl
  have o':=eB hw hl (ss:=[s]) (λs' h'=>by rw[Qv.mp h'];exact hs s (by simp)) o one;refine fk hw (by show _<(x.ws++[_]).length;rw[Qi];omega) hs' o' ?_ h;show (x.ps++[s.2]).Nodup;rw[XC];exact⟨n,by simp,λa ha b hb z=>c (by rw[<-Qv.mp hb,<-z];exact ha)⟩
theorem ie {r:Rg} {ts:List Tu} (ok:RgOk r) (wt:Wt r ts):∀{f:Nat} {x:Sx} {nds:List Nd},OuO r ts x nds->WsOk r ts x->41<=f+nds.length->outer r ts f x nds=.many->∃x':Sx,WsOk r ts x'/\x'.ps.Nodup/\x'.ps.length=40
 | 0,x,nds,o,ow,hf,h=>by have:=o.le;have:=o.l40;omega
 | f+1,x,nds,o,ow,hf,h=>by
  unfold outer at h;by_cases c:nds.length<x.ps.length
  ·rw[Qs c]at h;have gp:=Sx.p_mem c;have gw:=Sx.w_mem (x:=x) (i:=nds.length) (by rw[ow.l];exact c);obtain⟨e1,hwy⟩:=ow.w _ _ gw;have hln:=ow.n _ (Qh gw);have ep:x.p nds.length=plB r (x.wy nds.length):=QC (gp.symm.trans e1);have po:=o.ok _ (Qh gp);rw[ep]at h gp po;generalize x.wy nds.length=way at h gp po hwy hln
   have hs:∀s∈bH r ts (plB r way),∃t,s=a7 r (plB r way) t/\MayOk r ts (plB r way) t:=λs hs=>by
    obtain⟨t,ht,rfl⟩:=Ql.mp hs;obtain⟨ht,hm⟩:=QP.mp ht;exact⟨t,rfl,ht,po,hm⟩
   cases e:bu r (plB r way).2 way (bH r ts (plB r way)) x [] with
   | inl res =>
    rw[e]at h;dsimp only at h;rw[h]at e;exact fk hwy hln hs ow o.nd e
   | inr q =>
   obtain⟨x',nd⟩:=q;rw[e]at h;dsimp only at h;exact ie ok wt (o.step ok wt gp e) (eB hwy hln hs ow e) (by rw[Qi,QK];omega) h
  rw[Qn c]at h;cases h
theorem rS (ok:RgOk r) (wt:Wt r ts) (h:unf r ts=.many):∃x:Sx,WsOk r ts x/\x.ps.Nodup/\x.ps.length=40:=by
 refine ie (x:=Sx.first r) (nds:=[]) ok wt ⟨QT _,(by decide:1<=40),rfl,QS.mpr ⟨by simp,.nil⟩,λp hp=>?_,λi p hi=>absurd hi (X2 _),λj p hj=>?_,rfl⟩ ⟨rfl,λw hw=>by cases Qv.mp hw;exact Nat.zero_lt_one,λi w hi=>?_⟩ (Qg _) h
 ·cases Qv.mp hp;exact kG ok
 ·left
  have:=(Qc.mp hj).1;have:j<1:=this;omega
 have hl:=(Qc.mp hi).1;have hl:i<1:=hl;obtain rfl:i=0:=by omega
 have hi:some ([]:List Tu)=some w:=hi;cases hi;exact⟨rfl,λk t hk=>by cases hk⟩
def dZ (o:List Tu) (k:Nat):Tu:=o.getD (if k=0 then o.length-1 else k-1) ("", "")
structure Cyc (r:Rg) (o:List Tu):Prop where
 ok:RgOk r
 nd:o.Nodup
 all:∀t,t∈o↔ca r.ws t
 arc:∀a∈r.arcs,∃k t,o[k]?=some t/\a=⟨dZ o k,t,if k=0 then 1 else 0⟩
 has:∀k t,o[k]?=some t->(⟨dZ o k,t,if k=0 then 1 else 0⟩:Arc)∈r.arcs
 z:∀x∈r.ws,sgB r.z (r.ws.idxOf x)=decide (o.idxOf ((x,("-" : Str)):Tu)<o.idxOf ((x,("+" : Str)):Tu))
section
variable {r:Rg} {o ts:List Tu}
def pC (r:Rg) (o:List Tu) (k:Nat):Pl:=plB r (o.take k)
theorem cG {k:Nat} {t:Tu} (nd:o.Nodup) (h:o[k]?=some t):o.idxOf t=k:=by
 obtain⟨l,e⟩:=Qc.mp h;rw[<-e];exact nd.idxOf_getElem k l
theorem d9 {k:Nat} {t:Tu} (nd:o.Nodup) (h:t∈o):t∈o.take k↔o.idxOf t<k:=by
 have hi:=QA h;have e:o[o.idxOf t]?=some t:=by rw[Qb hi];exact congrArg some (XS hi)
 constructor
 ·intro m;obtain⟨j,hj⟩:=Xl m;have jl:=(Qc.mp hj).1;rw[QN]at jl;rw[List.getElem?_take_of_lt (by omega)]at hj;rw[cG nd hj];omega
 intro l;exact Qh (i:=o.idxOf t) (by rw[List.getElem?_take_of_lt l];exact e)
theorem Cyc.rd (c:Cyc r o):∀k,k<=o.length->RdOk r (o.take k) (pC r o k)
 | 0,_=>by rw[show o.take 0=[] from rfl];exact sQ c.ok
 | k+1,h=>by
  have g:=Qb (l:=o) (i:=k) (by omega);have et:o.take (k+1)=o.take k++[o[k]]:=by rw[XI,g];rfl
  have ih:=c.rd k (by omega);unfold pC at ih ⊢;rw[et,fJ];refine vk c.ok ih ((c.all _).mp (QW _)) λm=>?_;have:=(d9 c.nd (QW _)).mp m;rw[cG c.nd g]at this;omega
theorem Cyc.len (c:Cyc r o):2<=o.length/\o.length<=10:=by
 obtain⟨x,hx⟩:∃x,x∈r.ws:=⟨_,QW (n:=0) (by have:=c.ok.w1;omega)⟩;have m1:=(c.all (x, "+")).mpr ⟨hx,.inl rfl⟩;have m2:=(c.all (x, "-")).mpr ⟨hx,.inr rfl⟩
 constructor
 ·have i1:=QA m1;have i2:=QA m2
  have ne:o.idxOf ((x,("+" : Str)):Tu)≠o.idxOf ((x,("-" : Str)):Tu):=λz=>by
   have a:=XS i1;have b:=XS i2;simp only[z]at a;have:=a.symm.trans b;have:("+" : Str) = "-" := congrArg Prod.snd this;exact absurd this (by decide +kernel)
  omega
 have:=Bf.pigeon o (bW r.ws) c.nd λt ht=>bS.mpr ((c.all t).mp ht);rw[dD]at this;have:=c.ok.w5;omega
theorem Cyc.mark (c:Cyc r o) {k:Nat} (hk:k<o.length) {i:Nat} {a:Arc} (ha:r.arcs[i]?=some a):(pC r o k).1[i]?=some (if o.idxOf a.two=k then 1 else 0):=by
 rw[(c.rd k (by omega)).m i a ha];obtain⟨j,t,hj,rfl⟩:=c.arc a (Qh ha);have jl:=(Qc.mp hj).1;have tm:=Qh hj;have it:=cG c.nd hj
 have pv:∃q,o[q]?=some (dZ o j)/\q=if j=0 then o.length-1 else j-1:=by
  refine⟨_,?_,rfl⟩;unfold dZ;have l:(if j=0 then o.length-1 else j-1)<o.length:=by split <;> omega
  rw[Qo,Qb l];rfl
 obtain⟨q,hq,eq⟩:=pv;have iq:=cG c.nd hq;have m1:=d9 (k:=k) c.nd (Qh hq);have m2:=d9 (k:=k) c.nd tm;dsimp only;rw[it];rw[iq]at m1;rw[it]at m2;congr 1;by_cases c0:j=0
 ·subst c0;rw[Qs rfl]at eq;rw[Qs rfl];rw[Qn (λz=>by have:=m1.mp z;omega)];by_cases k0:k=0
  ·subst k0;rw[Qn (λz=>by have:=m2.mp z;omega),Qs rfl];rfl
  rw[Qs (m2.mpr (by omega)),Qn (λz=>k0 z.symm)];rfl
 rw[Qn c0]at eq;rw[Qn c0];by_cases e:j=k
 ·subst e;rw[Qs rfl,Qs (m1.mpr (by omega)),Qn (λz=>by have:=m2.mp z;omega)];rfl
 rw[Qn e];by_cases l:j<k
 ·rw[Qs (m1.mpr (by omega)),Qs (m2.mpr l)];rfl
 rw[Qn (λz=>by have:=m1.mp z;omega),Qn (λz=>l (m2.mp z))];rfl
theorem Cyc.mok (c:Cyc r o) {k:Nat} (hk:k<o.length):PlOk r (pC r o k):=by
 refine⟨⟨(c.rd k (by omega)).len,λm hm=>?_⟩,(c.rd k (by omega)).st⟩;obtain⟨i,hi⟩:=Xl hm;have l:=(Qc.mp hi).1;rw[(c.rd k (by omega)).len]at l;have e:=c.mark hk (Qb l);rw[hi]at e;rw[QC e]
 split
 ·exact .inr rfl
 exact .inl rfl
theorem Cyc.may (c:Cyc r o) {k:Nat} (hk:k<o.length) {t:Tu} (ht:t∈o):bT r.arcs (pC r o k).1 t=decide (o.idxOf t=k):=by
 have hi:=QA ht;have et:o[o.idxOf t]?=some t:=by rw[Qb hi];exact congrArg some (XS hi)
 rw[X1,X6];unfold bT;rw[QX]
 constructor
 ·intro h;obtain⟨i,hm⟩:=Xl (c.has _ _ et);have mm:=c.mark hk hm;have:=h _ (Qh (gt hm mm));dsimp only at this;by_cases e:o.idxOf t=k
  ·exact e
  rw[Qn e,Qu rfl]at this;simp at this
 intro e q hq;obtain⟨i,hi⟩:=Xl hq;obtain⟨g1,g2⟩:=XU.mp hi;have mm:=c.mark hk g1;rw[g2]at mm;by_cases d:q.1.two=t
 ·rw[d,Qs e]at mm;rw[QC mm];simp
 rw[Qw d];rfl
theorem Cyc.wt_all (c:Cyc r o) (wt:Wt r ts) (t:Tu):t∈ts↔t∈o:=by
 rw[wt.mem,c.all]
 constructor
 ·rintro⟨a,ha,rfl⟩;exact(c.ok.arcs a ha).t
 intro h;have m:=(c.all t).mpr h;obtain⟨i,hi⟩:=Xl m;exact⟨_,c.has i t hi,rfl⟩
theorem Cyc.step (c:Cyc r o) {k:Nat} {t:Tu} (h:o[k]?=some t):(a7 r (pC r o k) t).2=pC r o ((k+1) % o.length):=by
 have l:=(Qc.mp h).1
 have e:(a7 r (pC r o k) t).2=pC r o (k+1):=by
  unfold pC;rw[<-fJ,XI,h];rfl
 rw[e];by_cases q:k+1<o.length
 ·rw[Nat.mod_eq_of_lt q]
 have:k+1=o.length:=by omega
 rw[this,Nat.mod_self,vm c.ok (c.rd o.length (Qg _)) (λt ht=>by rw[List.take_length];exact(c.all t).mpr ht)];rfl
theorem Cyc.odd (c:Cyc r o) {k:Nat} {t:Tu} (h:o[k]?=some t):cT r (pC r o k).2 (a7 r (pC r o k) t)=none:=by
 have l:=(Qc.mp h).1;have tm:=Qh h;have ik:=cG c.nd h;obtain⟨hx,hs⟩:=(c.all t).mp tm;have sg:=(c.rd k (by omega)).s t.1 hx;have m1:=(c.all (t.1, "+")).mpr ⟨hx,.inl rfl⟩;have m2:=(c.all (t.1, "-")).mpr ⟨hx,.inr rfl⟩;rw[c.z t.1 hx,show decide (((t.1,("+" : Str)):Tu)∈o.take k)=decide (o.idxOf ((t.1,("+" : Str)):Tu)<k) from Xs.mpr (d9 c.nd m1),show decide (((t.1,("-" : Str)):Tu)∈o.take k)=decide (o.idxOf ((t.1,("-" : Str)):Tu)<k) from Xs.mpr (d9 c.nd m2)]at sg;have pm:("-" : Str) ≠ "+" := by decide +kernel
 have nosig:¬(sgB (pC r o k).2 (r.ws.idxOf t.1)=decide (t.2 = "+")):=by
  rw[sg];rcases hs with e|e
  ·have et:t=(t.1,("+" : Str)):=Prod.ext rfl e;have i1:o.idxOf ((t.1,("+" : Str)):Tu)=k:=by rw[<-et];exact ik
   rw[i1,e];by_cases q:o.idxOf ((t.1,("-" : Str)):Tu)<k <;> simp[q]
  have et:t=(t.1,("-" : Str)):=Prod.ext rfl e;have i1:o.idxOf ((t.1,("-" : Str)):Tu)=k:=by rw[<-et];exact ik
  have ne:o.idxOf ((t.1,("+" : Str)):Tu)≠k:=λz=>by
   have hi:=QA m1;have a:=XS hi;have b:=(Qc.mp h).2;simp only[z]at a;have:=congrArg Prod.snd (a.symm.trans b);exact pm (e.symm.trans this.symm)
  rw[i1,e];by_cases q:o.idxOf ((t.1,("+" : Str)):Tu)<k
  ·have:¬(k<o.idxOf ((t.1,("+" : Str)):Tu)):=by omega
   simp[q,this,pm]
  have:k<o.idxOf ((t.1,("+" : Str)):Tu):=by omega
  simp[q,this,pm]
 unfold cT;rw[show (a7 r (pC r o k) t).1=t from rfl,Qn nosig,Qn];intro z;rw[c.step h]at z;have ll:=c.len;rcases(c.mok (Nat.mod_lt (k+1) (by omega:0<o.length))).m.m 2 z with q|q <;> cases q
theorem Cyc.filt (c:Cyc r o) (wt:Wt r ts) {k:Nat} {t:Tu} (h:o[k]?=some t):ts.filter (bT r.arcs (pC r o k).1)=[t]:=by
 have l:=(Qc.mp h).1;have tm:=Qh h;have nd:(ts.filter (bT r.arcs (pC r o k).1)).Nodup:=wt.nd.filter _
 have mem:∀x,x∈ts.filter (bT r.arcs (pC r o k).1)↔x=t:=λx=>by
  rw[QP]
  constructor
  ·rintro⟨h1,h2⟩;have xo:=(c.wt_all wt x).mp h1;rw[c.may l xo,X6]at h2;have hi:=QA xo;have a:o[o.idxOf x]?=some x:=by rw[Qb hi];exact congrArg some (XS hi)
   rw[h2,h]at a;exact(QC a).symm
  rintro rfl;exact⟨(c.wt_all wt x).mpr tm,by rw[c.may l tm,Qu (cG c.nd h)]⟩
 cases e:ts.filter (bT r.arcs (pC r o k).1) with
 | nil=>have:=(mem t).mpr rfl;rw[e]at this;cases this
 | cons a as =>
 rw[e]at nd mem;have ha:=(mem a).mp (by simp)
 cases as with
 | nil=>rw[ha]
 | cons b bs =>
 have hb:=(mem b).mp (by simp);rw[QS]at nd;exact absurd (by rw[ha,hb];simp) nd.1
theorem Cyc.inj (c:Cyc r o) {j k:Nat} (hj:j<o.length) (hk:k<o.length) (e:pC r o j=pC r o k):j=k:=by
 have g:=Qb (l:=o) hj;obtain⟨i,hm⟩:=Xl (c.has _ _ g);have a:=c.mark hj hm;have b:=c.mark hk hm;rw[e,b]at a;have it:=cG c.nd g;dsimp only at a;rw[it,Qs rfl]at a;by_cases q:j=k
 ·exact q
 rw[Qn q]at a;cases a
theorem Cyc.way (c:Cyc r o) (wt:Wt r ts):∀(n:Nat) (w:List Tu),w.length=n->lf r ts w->plB r w=pC r o (n % o.length)
 | 0,w,h,_=>by
  rw[List.eq_nil_of_length_eq_zero h,Nat.zero_mod];rfl
 | n+1,w,h,hw=>by
  have ll:=c.len;obtain⟨v,t,rfl⟩:∃v t,w=v++[t]:=⟨w.dropLast,w.getLast (λz=>by rw[z]at h;simp at h),(List.dropLast_concat_getLast _).symm⟩;rw[Qi,QK]at h;have hv:v.length=n:=by omega
  have hv':lf r ts v:=λk u hk=>by
   have kl:=(Qc.mp hk).1;have:=hw k u (by rw[QG kl];exact hk);rwa [List.take_append_of_le_length (XT kl)]at this
  have ih:=c.way wt n v hv hv';obtain⟨m,od⟩:=hw v.length t (by rw[QJ (Qg _),Nat.sub_self];rfl);rw[List.take_append_of_le_length (Qg _),List.take_length]at m;have kl:n % o.length<o.length:=Nat.mod_lt _ (by omega);have g:=Qb (l:=o) kl;have mf:t∈ts.filter (bT r.arcs (pC r o (n % o.length)).1):=QP.mpr ⟨m.mt,by rw[<-ih];exact m.may⟩;rw[c.filt wt g,Qv]at mf;rw[fJ,ih,mf,c.step g,Nat.mod_add_mod]
end
section
variable {r:Rg} {o ts:List Tu}
def psC (r:Rg) (o:List Tu):List Pl:=(List.range o.length).map (pC r o)
def cE (o:List Tu):List Nd:=(List.range o.length).map λk=>[((o.getD k ("", "")).1,(k+1) % o.length)]
theorem hV {k:Nat} (hk:k<o.length):(psC r o)[k]?=some (pC r o k):=by
 unfold psC;rw[Qq,List.getElem?_range hk];rfl
theorem Cyc.nodup (c:Cyc r o):(psC r o).Nodup:=by
 unfold psC;refine Xo.mpr (List.Pairwise.imp_of_mem ?_ List.nodup_range);intro a b ha hb ne e;exact ne (c.inj (QR.mp ha) (QR.mp hb) e)
theorem Cyc.sheet (c:Cyc r o) (wt:Wt r ts):∃nds ps,unf r ts=.sheet nds/\ShtP r ts ps nds:=by
 have ll:=c.len
 cases e:unf r ts with
 | odd w wd =>
  exfalso;obtain⟨v,t,rfl,_,od⟩:=uZ c.ok wt e;have pv:=c.way wt v.length v rfl od.wy;have kl:v.length % o.length<o.length:=Nat.mod_lt _ (by omega);have g:=Qb (l:=o) kl;have m:=od.m;have q:=od.o;rw[pv]at m q;have mf:t∈ts.filter (bT r.arcs (pC r o (v.length % o.length)).1):=QP.mpr ⟨m.mt,m.may⟩;rw[c.filt wt g,Qv]at mf;rw[mf,c.odd g]at q;cases q
 | many =>
  exfalso;obtain⟨x,wo,nd,l⟩:=rS c.ok wt e
  have:=Bf.pigeon x.ps (psC r o) nd λp hp=>by
   obtain⟨i,hi⟩:=Xl hp;have il:=(Qc.mp hi).1;have gw:=Qb (l:=x.ws) (i:=i) (by rw[wo.l];exact il);obtain⟨e1,wy⟩:=wo.w i _ gw;rw[hi]at e1;rw[QC e1,c.way wt _ _ rfl wy];exact Ql.mpr ⟨_,QR.mpr (Nat.mod_lt _ (by omega)),rfl⟩
  rw[show (psC r o).length=o.length by unfold psC;rw[Qd,Q3]]at this;omega
 | sheet nds =>
 obtain⟨ps,sp⟩:=jf c.ok wt e;exact⟨nds,ps,rfl,sp⟩
theorem Cyc.places (c:Cyc r o) (wt:Wt r ts) {ps:List Pl} {nds:List Nd} (sp:ShtP r ts ps nds):ps=psC r o:=by
 have ll:=c.len;have z0:=(Qc.mp sp.zero).1
 have key:∀j,j<ps.length->j<o.length/\∀i,i<=j->ps[i]?=some (pC r o i):=by
  intro j
  induction j with
  | zero =>
   intro _;refine⟨by omega,λi hi=>?_⟩;obtain rfl:i=0:=by omega
   exact sp.zero
  | succ j ih =>
  intro hj;obtain⟨jl,hp⟩:=ih (by omega);rcases sp.from_ (j+1) _ (Qb hj) with h|⟨i,q,t,hij,hq,ht,hm,e⟩
  ·omega
  have qe:q=pC r o i:=by rw[hp i (by omega)]at hq;exact(QC hq).symm
  subst qe;have il:i<o.length:=by omega
  have g:=Qb (l:=o) il;have mf:t∈ts.filter (bT r.arcs (pC r o i).1):=QP.mpr ⟨ht,hm⟩;rw[c.filt wt g,Qv]at mf;subst mf;rw[c.step g]at e;have hn:=Qb (l:=ps) hj;rw[<-e]at hn
  have ij:i=j:=by
   by_cases c1:i=j
   ·exact c1
   have:=ip sp.nd hn (hp ((i+1) % o.length) (by rw[Nat.mod_eq_of_lt (by omega)];omega));rw[Nat.mod_eq_of_lt (by omega)]at this;omega
  subst ij
  have jo:i+1<o.length:=by
   by_cases c1:i+1<o.length
   ·exact c1
   have e2:i+1=o.length:=by omega
   rw[e2,Nat.mod_self]at hn;have:=ip sp.nd hn (hp 0 (by omega));omega
  refine⟨jo,λk hk=>?_⟩;by_cases c2:k<=i
  ·exact hp k c2
  obtain rfl:k=i+1:=by omega
  rw[Nat.mod_eq_of_lt jo]at hn;exact hn
 obtain⟨n,hn⟩:∃n,ps.length=n+1:=⟨ps.length-1,by omega⟩;obtain⟨nl,hp⟩:=key n (by omega)
 have full:n+1=o.length:=by
  by_cases c1:n+1=o.length
  ·exact c1
  have g:=Qb (l:=o) nl;have mf:o[n]∈ts.filter (bT r.arcs (pC r o n).1):=by rw[c.filt wt g];simp
  obtain⟨h1,h2⟩:=QP.mp mf;have m:=(sp.mem _ (Qh (hp n (Qg _))) _ h1 h2).1;rw[c.step g,Nat.mod_eq_of_lt (by omega)]at m;obtain⟨i,hi⟩:=Xl m;have il:=(Qc.mp hi).1;rw[hp i (by omega)]at hi;have:=c.inj (by omega) (by omega) (QC hi);omega
 refine XW λi=>?_;by_cases hi:i<o.length
 ·rw[hp i (by omega),hV hi]
 rw[Xd.mpr (by omega),Xd.mpr (by unfold psC;rw[Qd,Q3];omega)]
theorem Cyc.unf (c:Cyc r o) (wt:Wt r ts):unf r ts=.sheet (cE o)/\ShtP r ts (psC r o) (cE o):=by
 have ll:=c.len;obtain⟨nds,ps,e,sp⟩:=c.sheet wt;have ep:=c.places wt sp;subst ep;have len:=sp.len;have lp:(psC r o).length=o.length:=by unfold psC;rw[Qd,Q3]
 have en:nds=cE o:=by
  refine XW λi=>?_;unfold cE;rw[Qq];by_cases hi:i<o.length
  ·have g:=Qb (l:=o) hi;rw[sp.node i _ (hV hi),List.getElem?_range hi];unfold cO;rw[c.filt wt g]
   have e1:(psC r o).idxOf (a7 r (pC r o i) o[i]).2=(i+1) % o.length:=by
    rw[c.step g];have:=hV (r:=r) (o:=o) (Nat.mod_lt (i+1) (by omega:0<o.length));obtain⟨l,q⟩:=Qc.mp this;rw[<-q];exact sp.nd.idxOf_getElem _ l
   show some [(o[i].1,_)]=some [((o.getD i ("", "")).1,_)];rw[e1,Qo,g];rfl
  rw[Xd.mpr (by omega),Xd.mpr (by rw[Q3];omega)];rfl
 rw[en]at e sp;exact⟨e,sp⟩
end
def tkA (a:Arc):av:=[.inr (ku a.one),.inr (ku a.two),.inl (.inl a.mark)]
theorem u0 {x y:Arc} (h:tkA x=tkA y):x=y:=by
 unfold tkA at h;simp only[X0,Sum.inr.injEq,Sum.inl.injEq,and_true]at h;cases x;cases y;obtain⟨h1,h2,h3⟩:=h;cases kM h1;cases kM h2;cases h3;rfl
theorem ArA.tk {a:Arc} (h:ArA H (.ref b) a):bL H (tkA a) b:=by
 obtain⟨_,v1,v2,e,q,⟨c,e1,h1⟩,d,e2,h2⟩:=h;cases e;subst e1 e2;exact⟨_,q,.cons ⟨c,rfl,h1⟩ (.cons ⟨d,rfl,h2⟩ (.cons rfl .nil))⟩
theorem ArA.of {a:Arc} (h:bL H (tkA a) b):ArA H (.ref b) a:=by
 obtain⟨vs,q,pr⟩:=h
 cases pr with
 | cons r1 pr=>cases pr with
  | cons r2 pr=>cases pr with
   | cons r3 pr =>
    cases pr;cases r3;obtain⟨c,e1,h1⟩:=r1;obtain⟨d,e2,h2⟩:=r2;subst e1 e2;exact⟨b,_,_,rfl,q,⟨c,rfl,h1⟩,d,rfl,h2⟩
theorem yx (h:Paired (ArA H) vs as):∃bs:A3,vs=bs.map V.ref/\KsA H bs (as.map tkA):=by
 induction h with
 | nil=>exact⟨[],rfl,.nil⟩
 | @cons v t _ _ r _ ih =>
 obtain⟨bs,e,p⟩:=ih;obtain⟨b,_,_,e1,q⟩:=id r;subst e1;exact⟨b::bs,by rw[e];rfl,.cons r.tk p⟩
theorem x_ {bs:A3} (h:KsA H bs ks) (hk:∀k∈ks,∃t,k=tkA t):∃as:List Arc,ks=as.map tkA/\Paired (ArA H) (bs.map V.ref) as:=by
 induction h with
 | nil=>exact⟨[],rfl,.nil⟩
 | @cons b k _ _ r _ ih =>
 obtain⟨ts,e,p⟩:=ih λk hk'=>hk k (Qp _ hk');obtain⟨t,rfl⟩:=hk k (by simp);exact⟨t::ts,by rw[e];rfl,.cons (ArA.of r) p⟩
theorem vf (as:List Arc):rN false (as.map tkA):=by
 refine⟨λx hx y hy=>?_,λx hx=>?_⟩
 ·obtain⟨t,_,rfl⟩:=Ql.mp hx;obtain⟨u,_,rfl⟩:=Ql.mp hy;rfl
 obtain⟨t,_,rfl⟩:=Ql.mp hx;exact⟨_,_,rfl⟩
def wz (o:List Tu) (k:Nat):Arc:=⟨dZ o k,o.getD k ("", ""),if k=0 then 1 else 0⟩
theorem vn {k:Nat} (p:Paired (TuA H) ov o) (hk:k<o.length):∃v,atI ov ((k:Int)-1)=some v/\TuA H v (dZ o k):=by
 have lp:=am p;have l:(if k=0 then o.length-1 else k-1)<o.length:=by split <;> omega
 have g:o[if k=0 then o.length-1 else k-1]?=some (dZ o k):=by
  unfold dZ;rw[Qo,Qb l];rfl
 obtain⟨v,hv,tv⟩:=aX p g;refine⟨v,?_,tv⟩;by_cases c:k=0
 ·subst c;rw[Qs rfl]at hv
  have e:ixN ov.length (-1)=some (ov.length-1):=by
   unfold ixN;rw[Qn (by decide),Qs (by omega)];congr 1;omega
  show atI ov (-1)=some v;unfold atI;rw[e,lp];exact hv
 rw[Qn c]at hv;rw[show (k:Int)-1=((k-1:Nat):Int) by omega];exact aY hv
theorem vg (st:StOk n z) (hj:j<n+1):sgB (z++⟨#[c]⟩) j=if j=n then c==49 else sgB z j:=by
 have hl:=st.len;unfold sgB;have e:(z++(⟨#[c]⟩:Str)).cps=z.cps++#[c]:=rfl;rw[e];by_cases q:j=n
 ·subst q;rw[Qs rfl,QY,Array.getElem?_append_right (by omega),hl,Nat.sub_self];rfl
 rw[Qn q,QY,Array.getElem?_append_left (by omega),<-QY]
theorem gr {f:α->β} (inj:∀{x y},f x=f y->x=y) {xs ys:List α} (h:(xs.map f).Perm (ys.map f)):xs.Perm ys:=by
 obtain⟨zs,pz,ez⟩:∃zs:List α,zs.Perm ys/\zs.map f=xs.map f:=perm_lift h
 have:zs=xs:=by
  have go:∀(as bs:List α),as.map f=bs.map f->as=bs:=λas=>by
   induction as with
   | nil=>intro bs e;cases bs with
    | nil=>rfl
    | cons b bs=>cases e
   | cons a as ih=>intro bs e;cases bs with
    | nil=>cases e
    | cons b bs =>
     rw[Qx,Qx]at e;injection e with e1 e2;rw[inj e1,ih bs e2]
  exact go _ _ ez
 rw[<-this];exact pz
where
 perm_lift {α β:Type} {f:α->β} {us:List β} {ys:List α} (h:us.Perm (ys.map f)):∃zs:List α,zs.Perm ys/\zs.map f=us:=by
  generalize e:ys.map f=vs at h
  induction h generalizing ys with
  | nil=>cases ys with
   | nil=>exact⟨[],.refl _,rfl⟩
   | cons y ys=>cases e
  | cons x _ ih=>cases ys with
   | nil=>cases e
   | cons y ys =>
    rw[Qx]at e;injection e with e1 e2;obtain⟨zs,p,q⟩:=ih e2;exact⟨y::zs,p.cons y,by rw[Qx,q,e1]⟩
  | swap x y l=>cases ys with
   | nil=>cases e
   | cons a ys=>cases ys with
    | nil=>cases e
    | cons b ys =>
     rw[Qx,Qx]at e;injection e with e1 e2;injection e2 with e2 e3;exact⟨b::a::ys,List.Perm.swap ..,by rw[Qx,Qx,e1,e2,e3]⟩
  | trans _ _ ih1 ih2 =>
  obtain⟨zs,p,q⟩:=ih2 e;obtain⟨ws,p',q'⟩:=ih1 q;exact⟨ws,p'.trans p,q'⟩
theorem yu (b:Bool):∃c,atI ("01" : Str).cps.toList (if b=true then 1 else 0)=some c/\(c=48\/c=49)/\(c==49)=b:=by
 cases b
 ·exact⟨48,by decide +kernel,.inl rfl,rfl⟩
 exact⟨49,by decide +kernel,.inr rfl,rfl⟩
def gO:Sp:=λvs H Q _=>∃(ol lo li:Addr) (ov:List V) (o:List Tu) (ins outs:List Str),vs=[.ref ol,.ref lo,.ref li]/\H ol=some (.lst ov)/\Paired (TuA H) ov o/\H lo=some (.lst (outs.map V.str))/\H li=some (.lst (ins.map V.str))/\(ins++outs).Nodup/\1<=(ins++outs).length/\(ins++outs).length<=5/\o.Nodup/\(∀t,t∈o↔ca (ins++outs) t)/\∀a l as (r:Rg) H',ak H H'->RgA H' a li lo l as r->r.ins=ins->r.outs=outs->Cyc r o->Q (.ref a) H'
theorem yp (nd:(ins++outs).Nodup) (w1:1<=(ins++outs).length) (w5:(ins++outs).length<=5) (ond:o.Nodup) (all:∀t,t∈o↔ca (ins++outs) t) (st:StOk (ins++outs).length z) (sz:∀(j:Nat) x,(ins++outs)[j]?=some x->sgB z j=decide (o.idxOf ((x,("-" : Str)):Tu)<o.idxOf ((x,("+" : Str)):Tu))) (pm:as.Perm ((List.range o.length).map (wz o))):Cyc ⟨ins,outs,z,as⟩ o:=by
 have l10:o.length<=10:=by
  have:=Bf.pigeon o (bW (ins++outs)) ond λt ht=>bS.mpr ((all t).mp ht);rw[dD]at this;omega
 have l2:2<=o.length:=by
  have hx:(ins++outs)[0]'(by omega)∈ins++outs:=QW _;generalize (ins++outs)[0]'(by omega)=x at hx
  have:=Bf.pigeon [((x,("+" : Str)):Tu),(x,("-" : Str))] o (by
   rw[QS];refine⟨λz=>?_,by simp⟩;have:=congrArg Prod.snd (Qv.mp z)
   exact absurd this (by decide +kernel:("+" : Str) ≠ "-")) λt ht=>by
   simp only[Qj,QE,Xi]at ht;rcases ht with rfl|rfl
   ·exact(all _).mpr ⟨hx,.inl rfl⟩
   exact(all _).mpr ⟨hx,.inr rfl⟩
  exact this
 have at_:∀k,k<o.length->o[k]?=some (o.getD k ("", ""))/\o[if k=0 then o.length-1 else k-1]?=some (dZ o k):=λk hk=>by
  have l:(if k=0 then o.length-1 else k-1)<o.length:=by split <;> omega
  constructor
  ·rw[Qo,Qb hk];rfl
  unfold dZ;rw[Qo,Qb l];rfl
 have arc:∀a∈as,∃k,k<o.length/\a=wz o k:=λa ha=>by
  obtain⟨k,hk,e⟩:=Ql.mp (pm.mem_iff.mp ha);exact⟨k,QR.mp hk,e.symm⟩
 refine⟨⟨nd,w1,w5,st,?_,λa ha=>?_⟩,ond,all,λa ha=>?_,λk t hk=>?_,λx hx=>?_⟩
 ·show as.length<=1000;rw[pm.length_eq,Qd,Q3];omega
 ·obtain⟨k,hk,rfl⟩:=arc a ha;obtain⟨h1,h2⟩:=at_ k hk;refine⟨(all _).mp (Qh h2),(all _).mp (Qh h1),λz=>?_,?_⟩
  ·have z:dZ o k=o.getD k ("", ""):=z;rw[z]at h2;have:=ip ond h1 h2
   split at this <;> omega
  show (if k=0 then (1:Int) else 0)=0\/(if k=0 then (1:Int) else 0)=1
  split
  ·exact .inr rfl
  exact .inl rfl
 ·obtain⟨k,hk,rfl⟩:=arc a ha;exact⟨k,_,(at_ k hk).1,rfl⟩
 ·have kl:=(Qc.mp hk).1;have e:t=o.getD k ("", ""):=by have:=(at_ k kl).1;rw[hk]at this;exact QC this
  rw[e];exact pm.mem_iff.mpr (Ql.mpr ⟨k,QR.mpr kl,rfl⟩)
 exact sz _ _ (gg hx)
section
theorem i5:FnScope ["order", "outputs", "inputs", "first", "name", "arcs"] ["order", "outputs", "inputs"] (aw (top 30)):=by fin2
theorem qS {f:Addr} {fd:FuncData} (Fu:Fun K "_law_ringed" "_law_ringed" (top 30) f fd) (T:Txt K mg TT):FnOk P w K mg base CX0 2 f fd ["order", "outputs", "inputs"] gO:=by
 have S:=i5;refine Fu.ok S (by room) (λcdv A outer s H vs Q E hr h=>?_);obtain⟨ol,lo,li,ov,o,ins,outs,rfl,hol,po,hlo,hli,nd,w1,w5,ond,all,k⟩:=h;have hu:=cB hr;refine'⟨?_,?bb,?_⟩
 case bb =>
  walk_at "b";exact aE 3 S.nd aI;walk_at "f";exact(br (aO fj (pv 2) (pv 1)));exact(bD 4 S.nd);walk_at "p";exact aE 3 S.nd (aO b9 (pv 3) (ao dJ aI (bw cI (by rfl) T.n_int XY (aa (cK l_ (bE QB Xb Xc (cg hr.units) (pv 0) (aa (be (aa (pv 4) (aa aI ac ay) ae)) ac se_tup)) (bE QB Xb Xc (cg hr.units) (pv 0) (aa (be (aa (pv 4) (aa aI ac ay) ae)) ac se_tup)) (aJ _)) ac))));exact(lW (j:=5) S.nd rfl (by z_go) (tgs:=["k", "turn"]) (cap:=[("order", 0)]) rfl ⟨rfl,rfl,rfl,rfl,rfl,rfl⟩ (gG (by rfl) T.n_enumerate (aa (pv 0) ac ae)) (λ_ _ _ _=>(kz (K:=K) (n:=2) rfl rfl (bg (bI (i:=0) (show List.Nodup [("k" : Str),("turn" : Str),("order" : Str)] by decide +kernel) rfl (by z_go)) (bg (bI (i:=1) (show List.Nodup [("k" : Str),("turn" : Str),("order" : Str)] by decide +kernel) rfl (by z_go)) cS)))) (λ_ _ _ _=>d4) (λ_ _ _ _=>(be (aa (ao (uk (K:=K) rfl) (pv 2) (aO f9 (pv 0) af)) (aa (pv 1) (aa (bw cI (by rfl) T.n_int XY (aa (cK dP (pv 0) af (aJ _)) ac)) ac aM) ae)))));refine' aW ?e
  case e =>
   walk_at "q";exact(pv 2);exact(pv 1);exact(pv 3);exact(aF (fz rfl hu) (by rfl) T.n_sorted PyProof.Rows.boot_sorted (aa (pv 5) ac ae))
 x_go;have lw:(ins.map V.str).length+(outs.map V.str).length=(ins++outs).length:=by rw[Qd,Qd,Qi]
 have lpo:=am po
 have l10:o.length<=10:=by
  have:=Bf.pigeon o (bW (ins++outs)) ond λt ht=>bS.mpr ((all t).mp ht);rw[dD]at this;omega
 lk;refine iE hli hlo (by rw[lw];omega) λwl hwl=>?_;rw[<-QZ];generalize hE:upd H wl _=H1;obtain⟨S1,qwl⟩:=aj hwl hE;refine⟨wl,rfl,⟨_,SqL.of qwl⟩,?_⟩;let I23:IvF:=λi σ H'=>∃(z:Str) (y4 y5:Option V),σ=[some (.ref ol),some (.ref lo),some (.ref li),some (.str z),y4,y5]/\ak H1 H'/\StOk i z/\∀(j:Nat) x,j<i->(ins++outs)[j]?=some x->sgB z j=decide (o.idxOf ((x,("-" : Str)):Tu)<o.idxOf ((x,("+" : Str)):Tu));refine bY (xs:=(ins++outs).map V.str) I23 ⟨_,_,_,rfl,ak.refl _,⟨rfl,λc hc=>nomatch hc⟩,λj x h=>absurd h (X2 _)⟩ (λi σ H' _ ⟨_,_,_,_,S',_⟩=>SqL.of (S' _ _ qwl)) (λi v σ H' ev h=>?_) (λσ H' h=>?_)
 ·obtain⟨z,y4,y5,rfl,S',st,sz⟩:=h;have hi:=(Qc.mp ev).1;rw[Qd]at hi;rw[Qq]at ev;obtain⟨n,en,rfl⟩:=Xu.mp ev;have mn:=Qh en;have SH:=S1.trans S';have zl:z.length=i:=st.len;have hol':=SH _ _ hol;kt_k;lk;refine⟨by simp[sizeLine],λp3 h3=>?_⟩;generalize hE:upd H' p3 _=H3;obtain⟨S3,q3⟩:=aj h3 hE;have S13:=SH.trans S3;have hol3:=S13 _ _ hol;lk;refine cq (t:=(n, "-")) (S13 _ _ hol) (ad (λ_ _ h=>TuA.kt (ak.tups S13) h) po) ⟨p3,rfl,q3⟩ ((all _).mpr ⟨mn,.inr rfl⟩) ?_;lk;refine⟨by simp[sizeLine],λp4 h4=>?_⟩;generalize hE:upd H3 p4 _=H4;obtain⟨S4,q4⟩:=aj h4 hE;have S14:=S13.trans S4;lk;refine cq (t:=(n, "+")) (S14 _ _ hol) (ad (λ_ _ h=>TuA.kt (ak.tups S14) h) po) ⟨p4,rfl,q4⟩ ((all _).mpr ⟨mn,.inl rfl⟩) ?_;lk;obtain⟨c,ec,hc,ec2⟩:=yu (decide (((o.idxOf ((n,("-" : Str)):Tu):Nat):Int)<(o.idxOf ((n,("+" : Str)):Tu):Nat)));refine fS (by decide) ec ?_;refine⟨z,_,rfl,rfl,by show z.length+1<=_;omega,?_⟩;refine⟨_,_,_,rfl,S'.trans (S3.trans S4),pf st hc,λj x hj hx=>?_⟩;rw[vg st hj];by_cases q:j=i
  ·subst q;rw[Qs rfl];rw[en]at hx;cases hx;rw[ec2,Xs];omega
  rw[Qn q];exact sz j x (by omega) hx
 obtain⟨z,y4,y5,rfl,S',st,sz⟩:=h;rw[Qd]at st sz;have SH:=S1.trans S';have hol':=SH _ _ hol;have po':=ad (λ_ _ h=>TuA.kt (ak.tups SH) h) po;lk;refine b_ ?_;lk;refine i_cons (aP rfl (bo ⟨ol,rfl,⟨_,SqL.of hol'⟩,λL hL=>?_⟩));refine oJ (xs:=ov) (λi Hx ys=>ak H' Hx/\Hx L=some (.lst ys)/\Paired (ArA Hx) ys ((List.range i).map (wz o))) ⟨ar hL,ag,.nil⟩ (λi Hx ys p=>⟨p.2.1,SqL.of (p.1 _ _ hol')⟩) (λi v Hx ys T ev p hT=>?_) (λHx ys p=>?_)
 ·obtain⟨Sx,hLx,py⟩:=p;have il:=(Qc.mp ev).1;have lys:=am py;rw[Qd,Q3]at lys;have ST:=ar (o:=.tup [.int (i:Nat),v]) hT;have qT:upd Hx T (.tup [.int (i:Nat),v]) T=some (.tup [.int (i:Nat),v]):=ag;generalize upd Hx T (.tup [.int (i:Nat),v])=Ha at ST qT;have Sxa:=Sx.trans ST;have pa:=ad (λ_ _ h=>TuA.kt (ak.tups Sxa) h) po';obtain⟨t,et,tt⟩:=paired_get pa ev;obtain⟨v0,ev0,tv0⟩:=vn pa (k:=i) (by omega);refine⟨T,_,rfl,SqT.of qT,rfl,_,_,rfl,aA ⟨_,_,rfl,aA ⟨rfl,⟨rfl,trivial⟩,i_yes (iteT ?_)⟩⟩⟩;lk;refine bj (SqL.of (Sxa _ _ hol')) ev0 ?_;lk;refine⟨by simp[sizeLine],λa ha=>?_⟩;have Sa:=ar (o:=.tup [v0,v,.int (if decide (V.int (i:Int)=V.int 0)=true then 1 else 0)]) ha;have aL:a≠L:=aG (ST _ _ hLx) ha;have hLa:=Sa _ _ (ST _ _ hLx);have qa:upd Ha a (.tup [v0,v,.int (if decide (V.int (i:Int)=V.int 0)=true then 1 else 0)]) a=some (.tup [v0,v,.int (if decide (V.int (i:Int)=V.int 0)=true then 1 else 0)]):=ag;generalize upd Ha a (.tup [v0,v,.int (if decide (V.int (i:Int)=V.int 0)=true then 1 else 0)])=Hb at Sa hLa qa;have kt:=bU (o:=.lst (ys++[.ref a])) hLa
  have em:(if decide (V.int (i:Int)=V.int 0)=true then (1:Int) else 0)=if i=0 then 1 else 0:=by
   by_cases c:i=0
   ·subst c;rfl
   rw[Qn c,Qw (λz=>c (by have:=V.int.inj z;omega))];rfl
  refine eX.mk hLa il (by omega) ⟨bO (Sxa.trans Sa) hL,ag,?_⟩;rw[X5,QZ];refine aU (ad (λ_ _ h=>h.kt (λb xs e=>kt _ _ (Sa _ _ (ST _ _ e)))) py) ?_;refine⟨a,v0,v,rfl,?_,(tv0.kt (ak.tups Sa)).kt kt,?_⟩
  ·rw[ah aL,qa,em];rfl
  show TuA _ v (o.getD i ("", ""));rw[Qo,et];exact(tt.kt (ak.tups Sa)).kt kt
 obtain⟨Sx,hLx,py⟩:=p;rw[lpo]at py;have S1x:=SH.trans Sx;obtain⟨bs,e,ka⟩:=yx py;subst e;lk;refine⟨L,_,false,rfl,.inl ⟨bs,SqL.of hLx,ka⟩,vf _,by rw[Qd,Qd,Q3];omega,λp bs' ks' hp ka' pm _=>?_⟩;obtain⟨as',e,pa'⟩:=x_ ka' λk hk=>by obtain⟨t,_,e⟩:=Ql.mp (pm.mem_iff.mp hk);exact⟨t,e.symm⟩
 subst e;have pm':as'.Perm ((List.range o.length).map (wz o)):=gr u0 pm;generalize bs'.map V.ref=vs' at pa';generalize hE:upd Hx p _=H8;obtain⟨S8,q8⟩:=aj hp hE;lk;refine⟨by simp[sizeLine],λa ha=>?_⟩;have S9:=ar (o:=.tup [.ref li,.ref lo,.str z,.ref p]) ha;have Sall:=(S1x.trans S8).trans S9;refine k a p vs' ⟨ins,outs,z,as'⟩ _ Sall ⟨ag,Sall _ _ hli,Sall _ _ hlo,S9 _ _ q8,ad (λ_ _ h=>h.kt (ak.tups (S8.trans S9))) pa'⟩ rfl rfl (yp nd w1 w5 ond all st (λj x hx=>sz j x (Qc.mp hx).1 hx) pm')
end
def bz (s:Sh) (i:Nat):List Str:=s.outs.filter λo=>decide (o∈(s.node i).map (·.1))
def lH:Sp:=λvs H Q _=>∃(a li lo ln:Addr) (nas:A3) (s:Sh) (i:Nat),vs=[.ref a,.int (i:Int)]/\ShAt H a li lo ln nas s/\ShOk s/\i<s.nodes.length/\∀l H',ak H H'->H l=none->H' l=some (.lst ((bz s i).map V.str))->Q (.ref l) H'
theorem gq {k:Key}:∀{qs kvs:List (Key × V)},(aV (cZ kvs qs) k).isSome=((aV kvs k).isSome || qs.any λp=>decide (p.1=k))
 | [],kvs=>by simp[cZ]
 | q::qs,kvs=>by
  show (aV (cZ (bq kvs q.1 q.2) qs) k).isSome=_;rw[gq (qs:=qs),cX];rw[List.any_cons];by_cases e:k=q.1
  ·rw[Qs e,Qu e.symm];simp
  rw[Qn e,Qw (λz=>e z.symm)];simp
section
theorem fG:FnScope ["sheet", "node", "turns"] ["sheet", "node"] (aw (top 11)):=by fin2
theorem qQ {f:Addr} {fd:FuncData} (Fu:Fun K "outputs_wanted" "outputs_wanted" (top 11) f fd) (T:Txt K mg TT):FnOk P w K mg base CX0 1 f fd ["sheet", "node"] lH:=by
 have S:=fG;refine Fu.ok S (by room) (λcdv A outer s H vs Q E hr h=>?_);obtain⟨a,li,lo,ln,nas,sh,i,rfl,at_,ok,hi,k⟩:=h;have hu:=cB hr;refine'⟨?_,?bb,?_⟩
 case bb =>
  walk_at "b";exact aE 2 S.nd (qO rfl (by rfl) T.n_dict (aa (ao aD (ao ax (pv 0) af) (pv 1)) ac));exact(aW (jt (tgs:=["name"]) (cap:=[("turns", 2)]) rfl ⟨rfl,rfl,rfl,rfl,rfl,rfl⟩ (br (ao ax (pv 0) af)) (λ_ _ _ _=>(bI (i:=0) (show List.Nodup [("name" : Str),("turns" : Str)] by decide +kernel) rfl (by z_go))) (λ_ _ _ _=>(dm (nK (xP hu (pv 0) (pv 1))))) (λ_ _ _ _=>(pv 0))))
 x_go;have ha:=at_.ha;obtain⟨na,hna,vs,hv,pv⟩:=aX at_.nodes (Qb hi);have lv:=am pv;unfold d8 at lv;rw[Qd]at lv;have few:=ok.few _ (QW hi);lk;unfold o_;lk;refine bj (v:=.ref na) (SqL.of at_.hn) (aY (by rw[Qq,hna];rfl)) ?_;refine bo ⟨na,vs,_,rfl,SqL.of hv,by omega,tV (wP pv),λd hd=>?_⟩;ctx_has H d H1 S1 q1 aj hd;have ha1:=S1 _ _ ha;have ho1:=S1 _ _ at_.ho;lk;refine b_ ?_;lk;refine⟨lo,rfl,⟨_,SqL.of ho1⟩,λL hL=>?_⟩
 have hd1:H L=none:=by
  cases e:H L with
  | none=>rfl
  | some o=>rw[S1 _ _ e]at hL;cases hL
 have lo11:sh.outs.length<=11:=by
  have:=ok.w11;unfold Sh.ws at this;rw[Qi]at this;omega
 let I24:IvC:=λj Hc ys=>ak H1 Hc/\Hc L=some (.lst ys)/\ys=((sh.outs.take j).filter λo=>decide (o∈(sh.node i).map (·.1))).map V.str;refine oH (xs:=sh.outs.map V.str) I24 ⟨ar hL,ag,by simp⟩ (λj Hc ys p=>⟨p.2.1,SqL.of (p.1 _ _ ho1)⟩) (λj v Hc ys e p=>?_) (λHc ys p=>?_)
 ·obtain⟨Sm,hdm,rfl⟩:=p;rw[Qq]at e
  cases ex:sh.outs[j]? with
  | none=>rw[ex]at e;cases e
  | some x =>
  rw[ex]at e;cases e;have hm:j<sh.outs.length:=(Qc.mp ex).1;refine aA ⟨by repeat' (first|exact trivial|refine⟨rfl,?_⟩),?_⟩;lk;refine zL (aP rfl (aP rfl ⟨d,_,rfl,.inl ⟨_,Sum.inr x,Rd.of (Sm _ _ q1),rfl,rfl⟩,?_⟩))
  have hb:(aV (cZ [] (fO (sh.nodes[i].map λp=>(p.1,V.int (p.2:Int))))) (Sum.inr x:Key)).isSome=decide (x∈(sh.node i).map (·.1)):=by
   rw[gq,Sh.node_of (Qb hi)];rw[X1];simp[aV,fO,List.any_eq_true]
  have tk:(sh.outs.take (j+1)).filter (λo=>decide (o∈(sh.node i).map (·.1)))=(sh.outs.take j).filter (λo=>decide (o∈(sh.node i).map (·.1)))++[x].filter (λo=>decide (o∈(sh.node i).map (·.1))):=by rw[XI,ex,List.filter_append];rfl
  rw[hb];refine⟨_,rfl,?_⟩;have lfl:=List.length_filter_le (λo=>decide (o∈(sh.node i).map (·.1))) (sh.outs.take j);rw[QN]at lfl
  cases c:decide (x∈(sh.node i).map (·.1)) with
  | true =>
   refine iteT ?_;refine aP rfl (eX.mk hdm (by rw[Qd];exact hm) (by rw[Qd];omega) ⟨bO Sm hL,ag,?_⟩);rw[tk,List.filter_cons_of_pos (by exact c),List.filter_nil,QZ];rfl
  | false =>
  refine iteF ?_;refine⟨(sh.outs.map V.str).length-(j+1),by rw[Qd];omega,rfl,by rw[Qd];omega,Sm,hdm,?_⟩;rw[tk,List.filter_cons_of_neg (by rw[c];exact Qr),List.filter_nil,XG]
 obtain⟨Sm,hdm,rfl⟩:=p;refine k L Hc (S1.trans Sm) hd1 ?_;rw[hdm,Qd,List.take_length];rfl
end
theorem jJ {xs:List α} {d x:α} (h:xs[i]?=some x):xs.getD i d=x:=by rw[Qo,h];rfl
theorem sj {xs:List Str}:(((xs.map V.str).length==(ys.map V.str).length)&&(List.range (xs.map V.str).length).all λj=>eqV ((xs.map V.str).getD j .non) ((ys.map V.str).getD j .non))=decide (xs=ys):=by
 rw[X1,Xr,X6,QX]
 constructor
 ·rintro⟨h1,h2⟩;have hl:xs.length=ys.length:=by simpa using h1
  refine List.ext_getElem hl λj h3 h4=>?_;have:=h2 j (QR.mpr (by rw[Qd];exact h3));rw[Qo,Qo,Qq,Qq,Qb h3,Qb h4]at this;have e:(xs[j]==ys[j])=true:=this;simpa using e
 rintro rfl;refine⟨by simp,λj hj=>?_⟩;have hj:=QR.mp hj;rw[Qd]at hj;rw[Qo,Qq,Qb hj];show (xs[j]==xs[j])=true;simp
theorem zH {K:PySem.W.Frag} {xs:List Str} (h1:H a=some (.lst (xs.map V.str))) (h2:H b=some (.lst (ys.map V.str))) (q:Q (.bl (!decide (xs=ys))) H):g_ K true (.ref a) (.ref b) H Q:=by
 refine⟨a,b,_,_,λj=>eqV ((xs.map V.str).getD j .non) ((ys.map V.str).getD j .non),rfl,rfl,SqL.of h1,SqL.of h2,λj x y e1 e2=>?_,?_⟩
 ·show EqD K H 8 x y (eqV ((xs.map V.str).getD j .non) ((ys.map V.str).getD j .non));rw[jJ e1,jJ e2];rw[Qq]at e1 e2
  cases c1:xs[j]? with
  | none=>rw[c1]at e1;cases e1
  | some z1 =>
  cases c2:ys[j]? with
  | none=>rw[c2]at e2;cases e2
  | some z2 =>
  rw[c1]at e1;rw[c2]at e2;cases e1;cases e2;exact .flat rfl rfl
 rw[Qs rfl,sj];exact q
abbrev vP (x:Nat):V:=.int (x:Int)
def PrI (H:Hp) (v:V) (p:Nat × Nat):Prop:=∃b,v=.ref b/\H b=some (.tup [vP p.1,vP p.2])
def PairsAt (H:Hp) (L:Addr) (ps:List (Nat × Nat)):Prop:=∃vs,H L=some (.lst vs)/\Paired (PrI H) vs ps
variable {ps:List (Nat × Nat)}
theorem PairsAt.same {H':Hp} (S:ak H H') (h:PairsAt H L ps):PairsAt H' L ps:=by
 obtain⟨vs,h1,h2⟩:=h;exact⟨vs,S _ _ h1,ad (λv p ⟨b,e,q⟩=>⟨b,e,S _ _ q⟩) h2⟩
theorem PairsAt.add {t:Addr} (h1:H L=some (.lst vs)) (h2:Paired (PrI H) vs ps) (ht:H t=some (.tup [vP i,vP j])):PairsAt (upd H L (.lst (vs++[.ref t]))) L (ps++[(i,j)]):=by
 have off:∀{b xs},H b=some (.tup xs)->b≠L:=λe z=>by rw[z,h1]at e;cases e
 exact⟨_,ag,aU (ad (λv p ⟨b,e,q⟩=>⟨b,e,by rw[ah (off q)];exact q⟩) h2) ⟨t,rfl,by rw[ah (off ht)];exact ht⟩⟩
def dS (f:Nat->Nat->Bool) (i m:Nat):List (Nat × Nat):=((List.range m).filter λj=>decide (i<j)&&f i j).map λj=>(i,j)
def c9 (f:Nat->Nat->Bool) (n i:Nat):List (Nat × Nat):=(List.range i).flatMap λi=>dS f i n
theorem gX (f:Nat->Nat->Bool) (i m:Nat):(dS f i m).length<=m:=by
 unfold dS;rw[Qd];exact QQ (List.length_filter_le _ _) (by rw[Q3];exact Qg _)
theorem iU (f:Nat->Nat->Bool) (n:Nat):∀i,(c9 f n i).length<=i*n
 | 0=>by simp[c9]
 | i+1=>by
  have ih:=iU f n i;have e:c9 f n (i+1)=c9 f n i++dS f i n:=by unfold c9;rw[X5,List.flatMap_append];simp
  rw[e,Qi,Nat.succ_mul];exact Nat.add_le_add ih (gX f i n)
theorem jV (f:Nat->Nat->Bool) (n i:Nat):c9 f n (i+1)=c9 f n i++dS f i n:=by unfold c9;rw[X5,List.flatMap_append];simp
theorem gY (f:Nat->Nat->Bool) (i:Nat):dS f i (i+1)=[]:=by
 unfold dS;rw[List.filter_eq_nil_iff.mpr,List.map_nil];intro j hj;have:=QR.mp hj;rw[Qw (by omega)];simp
variable {f:Nat->Nat->Bool}
theorem sM {m:Nat} (h:i<m) (c:f i m=true):dS f i (m+1)=dS f i m++[(i,m)]:=by
 unfold dS;rw[X5,List.filter_append,QZ,List.filter_cons_of_pos (by rw[Qu h,c];rfl)];rfl
theorem sN {m:Nat} (h:i<m) (c:f i m=false):dS f i (m+1)=dS f i m:=by
 unfold dS;rw[X5,List.filter_append,QZ,List.filter_cons_of_neg (by rw[c];simp)];simp
noncomputable def clB (s:Sh) (lam:Nat->Str) (i j:Nat):Bool:=@decide (s.R i/\s.R j/\lam i=lam j/\bz s i≠bz s j) (Classical.propDecidable _)
variable {lam:Nat->Str}
theorem jP (h:¬(s.R i/\s.R j/\lam i=lam j/\bz s i≠bz s j)):clB s lam i j=false:=@Qw _ (Classical.propDecidable _) h
theorem xh (h:s.R i/\s.R j/\lam i=lam j/\bz s i≠bz s j):clB s lam i j=true:=@Qu _ (Classical.propDecidable _) h
def j8 (TL:Addr):Sp:=λvs H Q _=>∃(a li lo ln:Addr) (nas:A3) (s:Sh) (lam:Nat->Str),vs=[.ref a]/\ShAt H a li lo ln nas s/\ShOk s/\Lab s lam/\cz TL ba H/\∀(L:Addr) H',Tk TL H H'->H L=none->PairsAt H' L (c9 (clB s lam) s.nodes.length s.nodes.length)->Q (.ref L) H'
theorem Tk.same {H':Hp} (t:Tk TL H H') (S:ak H' H''):Tk TL H H'':=⟨λb o e n=>S _ _ (t.old b o e n),bF t.tab S⟩
theorem sJ {ta:TA} {R:It->Hp->Prop} (q:ta σ H λvs H1=>∃i j:Int,vs=[.int i,.int j]/\(-(2 ^ 62)<=i/\i<2 ^ 62/\-(2 ^ 62)<=j/\j<2 ^ 62)/\R (Itr i (j-i).toNat) H1):w9 ta σ H R:=q
section
theorem gW:FnScope ["sheet", "rows", "wanted", "pairs", "node", "row", "later"] ["sheet"] (aw (top 12)):=by fin2
theorem tU {TL:Addr} {f:Addr} {fd:FuncData} (Fu:Fun K "clash_pairs" "clash_pairs" (top 12) f fd) (T:Txt K mg TT) (f_signs_of:Fn P w K mg base "signs_of" ["sheet"] 4 (gD TL)) (f_outputs_wanted:Fn P w K mg base "outputs_wanted" ["sheet", "node"] 1 lH):FnOk P w K mg base CX0 5 f fd ["sheet"] (j8 TL):=by
 have S:=gW;refine Fu.ok S (by room) (λcdv A outer s H vs Q E hr h=>?_);obtain⟨a,li,lo,ln,nas,sh,lam,rfl,at_,ok,lb,tb,k⟩:=h;have hu:=cB hr;refine'⟨?_,?bb,?_⟩
 case bb =>
  walk_at "b";exact aE 1 S.nd (aH f_signs_of hr (aa (pv 0) ac ae));exact(lW (j:=2) S.nd rfl (by z_go) (tgs:=["node"]) (cap:=[("sheet", 0)]) rfl ⟨rfl,rfl,rfl,rfl,rfl,rfl⟩ (cD (by rfl) T.n_range (aa (aF az (by rfl) T.n_len QV (aa (pv 1) ac ae)) ac aM)) (λ_ _ _ _=>(bI (i:=0) (show List.Nodup [("node" : Str),("sheet" : Str)] by decide +kernel) rfl (by z_go))) (λ_ _ _ _=>d4) (λ_ _ _ _=>(aH f_outputs_wanted hr (aa (pv 1) (aa (pv 0) ac ae) ae))));exact aE 3 S.nd (a_ ac);walk_at "f";exact(gG (by rfl) T.n_enumerate (aa (pv 1) ac ae));exact(fh rfl (bg (bD 4 S.nd) (bg (bD 5 S.nd) cS)));walk_at "p";walk_at "f";exact(jq (by rfl) T.n_range (aa (aO bX (pv 4) af) (aa (aF az (by rfl) T.n_len QV (aa (pv 1) ac ae)) ac aM)));exact(bD 6 S.nd);walk_at "p";exact(PW.pt (hU (aB pO (pv 5) nO rfl) (hU (aB dP (pv 5) (ao aD (pv 1) (pv 6)) (aJ _)) (kr (aB (ig hr.units) (ao aD (pv 2) (pv 4)) (ao aD (pv 2) (pv 6)) (aJ _))))));refine' bM (bE QB Q4 Q5 bn (pv 3) ?a)
  case a =>
   walk_at "q";exact(pv 4);exact(pv 6)
  exact(aW (pv 3))
 x_go;have n100:=ok.n100;have n1:=ok.n1;lk;refine⟨a,li,lo,ln,nas,sh,rfl,at_,ok,tb,λLr us H1 tk1 Lr0 q1 so=>?_⟩;have at1:ShAt H1 a li lo ln nas sh:=at_.mono (λb xs e=>tk1.old b _ e (di tb e λ_ z=>nomatch z)) (λb xs e=>tk1.old b _ e (di tb e λ_ z=>nomatch z));have lus:=so.len;lk;refine b_ ?_;lk;refine⟨by omega,by omega,λLw hLw=>?_⟩;rw[Q2,lus];let I25:IvC:=λm H' ys=>ak H1 H'/\H' Lw=some (.lst ys)/\∃bs:A3,ys=bs.map V.ref/\bs.length=m/\∀(j:Nat) b,bs[j]?=some b->b≠Lw/\H' b=some (.lst ((bz sh j).map V.str))
 refine ft (n:=sh.nodes.length) I25
  ⟨ar hLw,ag,[],rfl,rfl,λj b h=>by simp at h⟩ (λm H' ys p=>p.2.1) (λm H' ys hm p=>?_) (λH2 ys p=>?_)
 ·obtain⟨Sm,hd,bs,rfl,lb',hb⟩:=p;refine aA ⟨by repeat' (first|exact trivial|refine⟨rfl,?_⟩),i_yes (iteT ?_)⟩;rw[show (0:Int)+(m:Int)=(m:Int) from Int.zero_add _];refine i_call (i_cons (aP rfl (i_cons (aP rfl (bo ⟨a,li,lo,ln,nas,sh,m,rfl,at1.same Sm,ok,hm,λl H3 S3 hl3 q3=>?_⟩)))));have lLw:l≠Lw:=λz=>by rw[z,hd]at hl3;cases hl3
  refine eX.mk (S3 _ _ hd) hm (by rw[Qd];omega) ⟨bO (Sm.trans S3) hLw,ag,bs++[l],by rw[QZ];rfl,by rw[Qi,lb'];rfl,λj b e=>?_⟩;by_cases c:j<bs.length
  ·rw[QG c]at e;obtain⟨e1,e2⟩:=hb j b e;exact⟨e1,by rw[ah e1];exact S3 _ _ e2⟩
  have lj:=(Qc.mp e).1;rw[Qi,QK]at lj;rw[QJ (by omega),show j-bs.length=0 by omega]at e;cases e;rw[show j=m by omega];exact⟨lLw,by rw[ah lLw];exact q3⟩
 obtain⟨S2,q2,bs,rfl,lbs,hbs⟩:=p
 have wat:∀j,j<sh.nodes.length->∃b,bs[j]?=some b/\H2 b=some (.lst ((bz sh j).map V.str)):=λj hj=>by
  have hj':j<bs.length:=by omega
  exact⟨_,Qb hj',(hbs j _ (Qb hj')).2⟩
 have tk2:=tk1.same S2;have q12:=S2 _ _ q1;clear hbs;refine aA ?_;lk;refine⟨by simp[sizeLine],λLp hLp=>?_⟩;ctx_has H2 Lp H3 S3 q3 aj hLp
 have Lp0:H Lp=none:=by
  cases e:H Lp with
  | none=>rfl
  | some o =>
  exfalso;by_cases c:Lp=TL
  ·obtain⟨ps,e2⟩:=xr tk2.tab;rw[<-c,hLp]at e2;cases e2
  rw[tk2.old _ _ e c]at hLp;cases hLp
 lk;have tk3:=tk2.same S3;have q13:=S3 _ _ q12;have q23:=S3 _ _ q2;refine i_cons (aP rfl (bo ⟨Lr,rfl,⟨_,SqL.of q13⟩,?_⟩));have LpF:∀{H':Hp} {o:HO},ak H2 H'->ak H2 (upd H' Lp o):=λS'=>bO S' hLp
 have fu:∀j,j<sh.nodes.length->(∃y,us[j]?=some (.str y)/\sh.R j/\lam j=y)\/(us[j]?=some .non/\¬sh.R j):=λj hj=>by
  by_cases c:sh.R j
  ·obtain⟨y,e1,_,e3⟩:=so.row j c;exact .inl ⟨y,e1,c,e3 lam lb⟩
  exact .inr ⟨so.none j hj c,c⟩
 let I26:IvF:=λi σ' H'=>∃x4 x5 x6:Option V,σ'=[some (.ref a),some (.ref Lr),some (.ref Lw),some (.ref Lp),x4,x5,x6]/\ak H2 H'/\PairsAt H' Lp (c9 (clB sh lam) sh.nodes.length i)
 refine iG (xs:=us) I26
  ⟨_,_,_,rfl,S3,[],q3,.nil⟩ (λi σ' H' _ pv=>by obtain⟨_,_,_,_,Sm,_⟩:=pv;exact SqL.of (Sm _ _ q12)) (λi v σ' H' t hv pv ht=>?_) (λσ' H' pv=>?_)
 ·obtain⟨x4,x5,x6,rfl,Sm,pr⟩:=pv;have hi:i<sh.nodes.length:=by rw[<-lus];exact(Qc.mp hv).1
  refine⟨t,_,rfl,SqT.of ag,rfl,?_⟩;refine⟨_,_,rfl,aA ⟨_,_,rfl,aA ⟨rfl,?_⟩⟩⟩;have St:=ar (o:=.tup [.int (i:Nat),v]) ht;have Smt:=Sm.trans St;have prt:=pr.same St;generalize upd H' t (.tup [.int (i:Nat),v])=Ht at *;clear pr Sm St ht;have q1t:=Smt _ _ q12;refine s_for (sJ ?_);lk;refine⟨_,_,rfl,⟨by omega,by omega,by omega,by omega⟩,?_⟩;rw[lus,show ((sh.nodes.length:Int)-((i:Int)+1)).toNat=sh.nodes.length-(i+1) by omega];let I27:IvF:=λm σ' H'=>∃x6:Option V,σ'=[some (.ref a),some (.ref Lr),some (.ref Lw),some (.ref Lp),some (.int (i:Nat)),some v,x6]/\ak H2 H'/\PairsAt H' Lp (c9 (clB sh lam) sh.nodes.length i++dS (clB sh lam) i (i+1+m))
  refine cU (n:=sh.nodes.length-(i+1)) I27
   ⟨_,rfl,Smt,by rw[Nat.add_zero,gY,XG];exact prt⟩ (λm σ' H' hm pv=>?_) (λσ' H' pv=>?_)
  ·obtain⟨x6,rfl,Sm,pr⟩:=pv;have hj:i+1+m<sh.nodes.length:=by omega
   have q1m:=Sm _ _ q12;have q2m:=Sm _ _ q2;refine aA ?_;rw[show ((i:Int)+1)+(m:Int)=((i+1+m:Nat):Int) by omega]
   have nop:clB sh lam i (i+1+m)=false->∃x6:Option V,[some (.ref a),some (.ref Lr),some (.ref Lw),some (.ref Lp),some (.int (i:Nat)),some v,some (.int ((i+1+m:Nat):Int))]=[some (.ref a),some (.ref Lr),some (.ref Lw),some (.ref Lp),some (.int (i:Nat)),some v,x6]/\ak H2 H'/\PairsAt H' Lp (c9 (clB sh lam) sh.nodes.length i++dS (clB sh lam) i (i+1+(m+1))):=λc =>
    ⟨_,rfl,Sm,by rw[show i+1+(m+1)=(i+1+m)+1 from rfl,sN (by omega) c];exact pr⟩
   lk;refine⟨rfl,_,rfl,?_⟩;rcases fu i hi with⟨y,e1,ri,ly⟩|⟨e1,nr⟩
   ·rw[e1]at hv;cases hv;refine ifT rfl ?_;lk;rcases fu _ hj with⟨y',e2,rj,ly'⟩|⟨e2,nr⟩
    ·refine bj (v:=.str y') (SqL.of q1m) (aY e2) ?_;refine i_eq rfl ⟨_,rfl,?_⟩;by_cases c:y=y'
     ·refine ifT (Qu (by rw[c])) ?_;obtain⟨b1,f1,g1⟩:=wat i hi;obtain⟨b2,f2,g2⟩:=wat _ hj;lk;refine bj (v:=.ref b1) (SqL.of q2m) (aY (by rw[Qq,f1];rfl)) ?_;lk;refine bj (v:=.ref b2) (SqL.of q2m) (aY (by rw[Qq,f2];rfl)) ?_;refine zH (Sm _ _ g1) (Sm _ _ g2) ⟨_,rfl,?_⟩;by_cases cw:bz sh i=bz sh (i+1+m)
      ·refine ifF (by rw[Qu cw];rfl) ?_;lk;exact nop (jP λh=>h.2.2.2 cw)
      refine ifT (by rw[Qw cw];rfl) ?_;obtain⟨vs,hvs,pvs⟩:=pr;lk;refine⟨by simp[sizeLine],λt ht=>?_⟩;have St:=ar (o:=.tup [.int (i:Nat),.int ((i+1+m:Nat):Int)]) ht;have pl:=am pvs;rw[Qi]at pl;have l1:=iU (clB sh lam) sh.nodes.length i;have l2:=gX (clB sh lam) i (i+1+m);have l3:i*sh.nodes.length<=100*100:=Nat.mul_le_mul (by omega) n100;refine bo (dQ (St _ _ hvs) (by omega) ?_);refine⟨_,rfl,LpF (Sm.trans St),?_⟩;rw[show i+1+(m+1)=(i+1+m)+1 from rfl,sM (by omega) (xh ⟨ri,rj,by rw[ly,ly',c],cw⟩),<-XN];exact PairsAt.add (St _ _ hvs) (ad (λv p ⟨b,e,q⟩=>⟨b,e,St _ _ q⟩) pvs) ag
     refine ifF (Qw (λz=>c (V.str.inj z))) ?_;lk;exact nop (jP λh=>c (by rw[<-ly,<-ly'];exact h.2.2.1))
    refine bj (v:=.non) (SqL.of q1m) (aY e2) ?_;refine i_eq rfl ⟨_,rfl,?_⟩;refine ifF (Qw (λz=>nomatch z)) ?_;lk;exact nop (jP λh=>nr h.2.1)
   rw[e1]at hv;cases hv;refine ifF rfl ?_;lk;exact nop (jP λh=>nr h.1)
  obtain⟨x6,rfl,Sm,pr⟩:=pv;rw[show i+1+(sh.nodes.length-(i+1))=sh.nodes.length by omega,<-jV]at pr;exact⟨_,_,_,rfl,Sm,pr⟩
 obtain⟨x4,x5,x6,rfl,Sm,pr⟩:=pv;rw[lus]at pr;lk;exact k Lp H' (tk2.same Sm) Lp0 pr
end
def xC (o:List Tu) (k:Nat):Str:=(o.getD k ("", "")).1
def duB (r:Rg) (o:List Tu) (outs:List Str) (i j:Nat):Bool:=decide (c7 (psC r o) i=c7 (psC r o) j)&&(decide (xC o i≠xC o j)&&(decide (xC o i∈outs) || decide (xC o j∈outs)))
theorem rO:y∈bz s i↔y∈s.outs/\y∈(s.node i).map (·.1):=by
 unfold bz;rw[QP,X6]
theorem Cyc.node {k:Nat} (hk:k<o.length):(bZ r (cE o)).node k=[(xC o k,(k+1) % o.length)]:=by
 refine Sh.node_of ?_;show (cE o)[k]?=_;unfold cE;rw[Qq,List.getElem?_range hk];rfl
theorem Cyc.due (c:Cyc r o) (wt:Wt r ts) (hi:i<o.length) (hj:j<o.length):clB (bZ r (cE o)) (c7 (psC r o)) i j=duB r o r.outs i j:=by
 have sp:=(c.unf wt).2;have lp:(psC r o).length=o.length:=by unfold psC;rw[Qd,Q3]
 have wi:∀y,y∈bz (bZ r (cE o)) i↔y∈r.outs/\y=xC o i:=λy=>by
  rw[rO,Cyc.node hi];simp[bZ]
 have wj:∀y,y∈bz (bZ r (cE o)) j↔y∈r.outs/\y=xC o j:=λy=>by
  rw[rO,Cyc.node hj];simp[bZ]
 have ne:bz (bZ r (cE o)) i≠bz (bZ r (cE o)) j↔xC o i≠xC o j/\(xC o i∈r.outs\/xC o j∈r.outs):=by
  constructor
  ·intro h;refine⟨λz=>h ?_,?_⟩
   ·unfold bz;rw[Cyc.node hi,Cyc.node hj];show r.outs.filter _=r.outs.filter _;rw[Qx,Qx,z]
   by_cases a:xC o i∈r.outs
   ·exact .inl a
   by_cases b:xC o j∈r.outs
   ·exact .inr b
   exfalso
   apply h
   have e1:bz (bZ r (cE o)) i=[]:=List.eq_nil_iff_forall_not_mem.mpr λy hy=>a (by obtain⟨h1,h2⟩:=(wi y).mp hy;rw[<-h2];exact h1);have e2:bz (bZ r (cE o)) j=[]:=List.eq_nil_iff_forall_not_mem.mpr λy hy=>b (by obtain⟨h1,h2⟩:=(wj y).mp hy;rw[<-h2];exact h1);rw[e1,e2]
  rintro⟨h1,h2⟩ e;rcases h2 with h2|h2
  ·have:=(wi _).mpr ⟨h2,rfl⟩;rw[e]at this;exact h1 ((wj _).mp this).2
  have:=(wj _).mpr ⟨h2,rfl⟩;rw[<-e]at this;exact h1 ((wi _).mp this).2.symm
 have ri:=sp.reach i (by omega);have rj:=sp.reach j (by omega);unfold duB;by_cases a:c7 (psC r o) i=c7 (psC r o) j
 ·by_cases b:xC o i≠xC o j/\(xC o i∈r.outs\/xC o j∈r.outs)
  ·rw[xh ⟨ri,rj,a,ne.mpr b⟩,Qu a,Qu b.1];rcases b.2 with q|q <;> simp[q]
  rw[jP λh=>b (ne.mp h.2.2.2),Qu a];by_cases b1:xC o i=xC o j
  ·simp[b1]
  have b2:xC o i∉r.outs:=λz=>b ⟨b1,.inl z⟩;have b3:xC o j∉r.outs:=λz=>b ⟨b1,.inr z⟩;simp[b2,b3]
 rw[jP λh=>a h.2.2.1,Qw a];rfl
theorem fA {g:Nat->Nat->Bool} {n:Nat} (h:∀i j,i<n->j<n->f i j=g i j):c9 f n n=c9 g n n:=by
 unfold c9 dS;rw[List.flatMap_def,List.flatMap_def];congr 1;refine XJ λi hi=>?_;congr 1;refine List.filter_congr λj hj=>?_;rw[h i j (QR.mp hi) (QR.mp hj)]
theorem rn {K:PySem.W.Frag} (h1:PairsAt H a ps) (h2:PairsAt H b ps) (q:Q (.bl true) H):g_ K false (.ref a) (.ref b) H Q:=by
 obtain⟨vs,e1,p1⟩:=h1;obtain⟨us,e2,p2⟩:=h2;have l1:=am p1;have l2:=am p2;refine zJ (SqL.of e1) (SqL.of e2) (by omega) (λj x y ex ey=>?_) q;obtain⟨p,ep,c,rfl,hc⟩:=paired_get p1 ex;obtain⟨p',ep',d,rfl,hd⟩:=paired_get p2 ey;rw[ep]at ep';cases ep';exact qh (SqT.of hc) (SqT.of hd) rfl (jM rfl)
def yQ (TL:Addr):Sp:=λvs H Q _=>∃(ol lo li:Addr) (ov:List V) (o:List Tu) (ins outs:List Str),vs=[.ref ol,.ref lo,.ref li]/\H ol=some (.lst ov)/\Paired (TuA H) ov o/\H lo=some (.lst (outs.map V.str))/\H li=some (.lst (ins.map V.str))/\(ins++outs).Nodup/\1<=(ins++outs).length/\(ins++outs).length<=5/\o.Nodup/\(∀t,t∈o↔ca (ins++outs) t)/\cz TL ba H/\∀H',Tk TL H H'->Q (.bl true) H'
section
theorem fH:FnScope ["order", "outputs", "inputs", "found", "signs", "due", "one", "other", "names"] ["order", "outputs", "inputs"] (aw (top 31)):=by fin2
theorem zo {TL:Addr} {f:Addr} {fd:FuncData} (Fu:Fun K "_law_ring_right" "_law_ring_right" (top 31) f fd) (T:Txt K mg TT) (f_unfolded:Fn P w K mg base "unfolded" ["ring_sheet"] 5 sx) (f_law_ringed:Fn P w K mg base "_law_ringed" ["order", "outputs", "inputs"] 2 gO) (f_signs_of:Fn P w K mg base "signs_of" ["sheet"] 4 (gD TL)) (f_clash_pairs:Fn P w K mg base "clash_pairs" ["sheet"] 5 (j8 TL)):FnOk P w K mg base CX0 6 f fd ["order", "outputs", "inputs"] (yQ TL):=by
 have S:=fH;refine Fu.ok S (by room) (λcdv A outer s H vs Q E hr h=>?_);obtain⟨ol,lo,li,ov,o,ins,outs,rfl,hol,po,hlo,hli,nd,w1,w5,ond,all,tb,k⟩:=h;have hu:=cB hr;refine'⟨?_,?bb,?_⟩
 case bb =>
  walk_at "b";exact aE 3 S.nd (aH f_unfolded hr (aa (aH f_law_ringed hr (aa (pv 0) (aa (pv 1) (aa (pv 2) ac ae) ae) ae)) ac aM));exact(PW.pt (pI (aB l9 (ao ax (pv 3) af) aI (aJ _)) (nJ (aB l9 (aF az (by rfl) T.n_len QV (aa (ao ax (ao ax (pv 3) af) af) ac)) (aF az (by rfl) T.n_len QV (aa (pv 0) ac ae)) (aJ _)))));exact(aW jv);exact aE 4 S.nd (aH f_signs_of hr (aa (ao ax (pv 3) af) ac));exact aE 5 S.nd (a_ ac);walk_at "f";exact(cD (by rfl) T.n_range (aa (aF az (by rfl) T.n_len QV (aa (pv 0) ac ae)) ac aM));exact(bD 6 S.nd);walk_at "p";walk_at "f";exact(jq (by rfl) T.n_range (aa (aO bX (pv 6) af) (aa (aF az (by rfl) T.n_len QV (aa (pv 0) ac ae)) ac aM)));exact(bD 7 S.nd);walk_at "p";exact(lW (j:=8) S.nd rfl (by z_go) (tgs:=["name"]) (cap:=[("outputs", 1)]) rfl ⟨rfl,rfl,rfl,rfl,rfl,rfl⟩ (br (a_ (aa (ao ax (ao aD (pv 0) (pv 6)) af) (aa (ao ax (ao aD (pv 0) (pv 7)) af) ac)))) (λ_ _ _ _=>(bI (i:=0) (show List.Nodup [("name" : Str),("outputs" : Str)] by decide +kernel) rfl (by z_go))) (λ_ _ _ _=>(dm (aB (nQ (K:=K) rfl) (pv 0) (pv 1) rfl))) (λ_ _ _ _=>(pv 0)));exact(PW.pt (hU (aB dP (ao aD (pv 4) (pv 6)) (ao aD (pv 4) (pv 7)) (aJ _)) (hU (aB l9 (ao ax (ao aD (pv 0) (pv 6)) af) (ao ax (ao aD (pv 0) (pv 7)) af) (aJ _)) (kr (aB (ig hr.units) (pv 8) (a_ ac) (aJ _))))));refine' bM (bE QB Q4 Q5 bn (pv 5) ?a)
  case a =>
   walk_at "q";exact(pv 6);exact(pv 7)
  exact(aW (cK (ii hr.units) (aH f_clash_pairs hr (aa (ao ax (pv 3) af) ac)) (pv 5) (aJ _)))
 x_go;have lpo:=am po;lk;refine⟨ol,lo,li,ov,o,ins,outs,rfl,hol,po,hlo,hli,nd,w1,w5,ond,all,λa l as r H1 S1 at1 ei eo cyc=>?_⟩;have ll:=cyc.len;lk;refine⟨a,li,lo,l,as,r,rfl,at1,cyc.ok,λvd ts H2 S2 wt rd=>?_⟩;obtain⟨eU,sp⟩:=cyc.unf wt;rw[eU]at rd;obtain⟨fa,s,sli,slo,sln,nas,rfl,hfa,sa,_,_⟩:=eG rd;have hs:=sa.ha;have S12:=S1.trans S2;have tb2:=bF tb S12;have lns:=am sa.nodes;have lnd:(bZ r (cE o)).nodes.length=o.length:=by show (cE o).length=_;unfold cE;rw[Qd,Q3]
 have shok:=sp.shok cyc.ok wt;have lab:=sp.lab cyc.ok wt;have hol2:=S12 _ _ hol;lk;refine ifF (by rw[Qu rfl];rfl) ?_;lk;refine⟨_,_,rfl,.inl (SqL.of sa.hn),?_⟩;lk;refine ifF (by rw[Qd,lns,lnd,lpo,Qu rfl];rfl) ?_;lk;refine⟨s,sli,slo,sln,nas,bZ r (cE o),rfl,sa,shok,tb2,λsl us H3 tk3 hsl qsl sg=>?_⟩;have tk13:=(Tk.of tb S12).trans tk3;have sa3:=sa.tk tb2 tk3;have hol3:=tk13.lst tb _ _ hol;have hlo3:=tk13.lst tb _ _ hlo;have po3:=ad (λ_ _ h=>TuA.kt (tk13.tup tb) h) po;have hfa3:=tk3.tup tb2 _ _ hfa
 have row:∀i,i<o.length->us[i]?=some (.str (c7 (psC r o) i)):=λi hi=>by
  obtain⟨y,e,_,l⟩:=sg.row i (sp.reach i (by unfold psC;rw[Qd,Q3];exact hi));rw[e,<-l _ lab]
 have xat:∀i,i<o.length->∀Hx,ak H3 Hx->∃b,ov[i]?=some (.ref b)/\∃z,Hx b=some (.tup [.str (xC o i),.str z]):=λi hi Hx Sx=>by
  obtain⟨v,hv,tv⟩:=aX po3 (Qb hi);obtain⟨b,rfl,hb⟩:=tv.kt (ak.tups Sx);refine⟨b,hv,o[i].2,?_⟩;unfold xC;rw[Qo,Qb hi];exact hb
 clear hsl sg rd S1 S2 at1;lk;refine⟨by simp[sizeLine],λD hD=>?_⟩;ctx_has H3 D H4 S4 qD aj hD;have hol4:=S4 _ _ hol3;have pr0:PairsAt H4 D (c9 (duB r o outs) o.length 0):=⟨[],qD,.nil⟩;kt_k;lk;refine⟨by omega,by omega,?_⟩;rw[Q2,lpo];let I28:IvF:=λi σ H'=>∃(x6 x7 x8:Option V),σ=[some (.ref ol),some (.ref lo),some (.ref li),some (.ref fa),some (.ref sl),some (.ref D),x6,x7,x8]/\ak H3 H'/\PairsAt H' D (c9 (duB r o outs) o.length i);refine cU (n:=o.length) I28 ⟨_,_,_,rfl,S4,pr0⟩ (λi σ H' hi pv=>?_) (λσ H' pv=>?_)
 ·obtain⟨x6,x7,x8,rfl,Si,pr⟩:=pv;have hol':=Si _ _ hol3;rw[Int.zero_add];refine aA ?_;refine s_for (sJ ?_);lk;refine⟨_,_,rfl,⟨by omega,by omega,by omega,by omega⟩,?_⟩;rw[lpo,show ((o.length:Int)-((i:Int)+1)).toNat=o.length-(i+1) by omega];let I29:IvF:=λm σ' H'=>∃(x7 x8:Option V),σ'=[some (.ref ol),some (.ref lo),some (.ref li),some (.ref fa),some (.ref sl),some (.ref D),some (.int (i:Nat)),x7,x8]/\ak H3 H'/\PairsAt H' D (c9 (duB r o outs) o.length i++dS (duB r o outs) i (i+1+m));refine cU (n:=o.length-(i+1)) I29 ⟨_,_,rfl,Si,by rw[Nat.add_zero,gY,XG];exact pr⟩ (λm σ' H' hm pv=>?_) (λσ' H' pv=>?_)
  ·obtain⟨x7,x8,rfl,Sm,pr⟩:=pv;have hj:i+1+m<o.length:=by omega
   rw[show ((i:Int)+1)+(m:Int)=((i+1+m:Nat):Int) by omega];obtain⟨b1,e1,z1,f1⟩:=xat i hi H' Sm;obtain⟨b2,e2,z2,f2⟩:=xat _ hj H' Sm;have hol':=Sm _ _ hol3;refine aA ?_;lk;refine b_ ?_;lk;refine bj (SqL.of hol') (aY e1) ?_;lk;refine bj (SqL.of hol') (aY e2) ?_;lk;refine⟨by simp[sizeLine],λq hq=>?_⟩;ctx_has H' q H5 S5 qq aj hq;have S35:=Sm.trans S5;refine⟨q,rfl,⟨_,SqL.of qq⟩,λL hL=>?_⟩;refine eN (xs:=[xC o i,xC o (i+1+m)]) (λx=>decide (x∈outs)) (λH v x=>v=.str x) hL qq (I:=λv x=>v=.str x) (.cons rfl (.cons rfl .nil)) (by show 2<=100000;decide) (λH H' v x k h=>h) (λv x G it mt S' GG N hG hN=>?_) (λH6 ys S6 hy py=>?_)
   ·cases it;refine aA ⟨⟨rfl,trivial⟩,?_⟩;lk;refine⟨lo,_,rfl,.inl (SqL.of (S' _ _ (S35 _ _ hlo3))),rfl,jL _,_,rfl,?_⟩;by_cases c:x∈outs
    ·rw[fR.mpr c];refine ifT rfl ?_;lk;exact hG (Qu c) _ _ (ak.refl _) rfl
    rw[Bool.eq_false_iff.mpr λz=>c (fR.mp z)];exact ifF rfl (hN (Qw c) _ (ak.refl _))
   have lpy:=am py;have S36:=S35.trans S6;have qsl6:=S36 _ _ qsl;have hol6:=S36 _ _ hol3;have pr6:=pr.same (S5.trans S6);have f16:=(S5.trans S6) _ _ f1;have f26:=(S5.trans S6) _ _ f2
   have nop:duB r o outs i (i+1+m)=false->∀H7,ak H6 H7->∃(x7 x8:Option V),[some (.ref ol),some (.ref lo),some (.ref li),some (.ref fa),some (.ref sl),some (.ref D),some (.int (i:Nat)),some (.int ((i+1+m:Nat):Int)),some (.ref L)]=[some (.ref ol),some (.ref lo),some (.ref li),some (.ref fa),some (.ref sl),some (.ref D),some (.int (i:Nat)),x7,x8]/\ak H3 H7/\PairsAt H7 D (c9 (duB r o outs) o.length i++dS (duB r o outs) i (i+1+(m+1))):=λc H7 S7 =>
    ⟨_,_,rfl,S36.trans S7,by rw[show i+1+(m+1)=(i+1+m)+1 from rfl,sN (by omega) c];exact pr6.same S7⟩
   unfold duB at nop;kt_k;lk;refine bj (SqL.of qsl6) (aY (row i hi)) ?_;lk;refine bj (SqL.of qsl6) (aY (row _ hj)) ?_;lk;by_cases c1:c7 (psC r o) i=c7 (psC r o) (i+1+m)
   ·refine ifT (Qu (by rw[c1])) ?_;rw[Qu c1,Bool.true_and]at nop;lk;refine bj (SqL.of hol6) (aY e1) ?_;lk;refine bj (SqL.of hol6) (aY e2) ?_;lk;by_cases c2:xC o i=xC o (i+1+m)
    ·refine ifF (by rw[Qu (by rw[c2])];rfl) (iteF (s_next (nop (by rw[Qw (λz=>z c2)];rfl) _ (ak.refl _))))
    refine ifT (by rw[Qw (λz=>c2 (V.str.inj z))];rfl) ?_;rw[Qu (show xC o i≠xC o (i+1+m) from c2),Bool.true_and]at nop;refine v5 rfl hy λH7 S7=>?_
    have cnt:ys.length=0↔(decide (xC o i∈outs) || decide (xC o (i+1+m)∈outs))=false:=by
     rw[lpy];by_cases a1:xC o i∈outs <;> by_cases a2:xC o (i+1+m)∈outs <;> simp[List.filter,a1,a2]
    by_cases c3:ys.length=0
    ·exact ifF (by rw[Qu c3];rfl) (s_next (nop (cnt.mp c3) _ S7))
    refine ifT (by rw[Qw c3];rfl) ?_
    have dT:duB r o outs i (i+1+m)=true:=by
     unfold duB;rw[Qu c1,Qu (show xC o i≠xC o (i+1+m) from c2),Bool.true_and,Bool.true_and]
     cases q:(decide (xC o i∈outs) || decide (xC o (i+1+m)∈outs)) with
     | true=>rfl
     | false=>exact absurd (cnt.mpr q) c3
    obtain⟨vs,hvs,pvs⟩:=pr6.same S7;lk;refine⟨by simp[sizeLine],λt ht=>?_⟩;have St:=ar (o:=.tup [.int (i:Nat),.int ((i+1+m:Nat):Int)]) ht;have pl:=am pvs;rw[Qi]at pl;have l1:=iU (duB r o outs) o.length i;have l2:=gX (duB r o outs) i (i+1+m);have l3:i*o.length<=10*10:=Nat.mul_le_mul (by omega) (by omega);refine bo (dQ (St _ _ hvs) (by omega) ?_);refine⟨_,_,rfl,bO ((S36.trans S7).trans St) hD,?_⟩;rw[show i+1+(m+1)=(i+1+m)+1 from rfl,sM (by omega) dT,<-XN];exact PairsAt.add (St _ _ hvs) (ad (λv p ⟨b,e,q⟩=>⟨b,e,St _ _ q⟩) pvs) ag
   refine ifF (Qw (λz=>c1 (V.str.inj z))) (iteF (s_next (nop (by rw[Qw c1];rfl) _ (ak.refl _))))
  obtain⟨x7,x8,rfl,Sm,pr⟩:=pv;rw[show i+1+(o.length-(i+1))=o.length by omega,<-jV]at pr;exact⟨_,_,_,rfl,Sm,pr⟩
 obtain⟨x6,x7,x8,rfl,Sm,pr⟩:=pv;have hfa':=Sm _ _ hfa3;have sa':=sa3.same Sm;have tk':=tk13.trans (Tk.of tk13.tab Sm);lk;refine⟨s,sli,slo,sln,nas,bZ r (cE o),c7 (psC r o),rfl,sa',shok,lab,tk'.tab,λL H6 tk6 hL pa=>?_⟩;rw[lnd,fA (λi j hi hj=>cyc.due wt hi hj),eo]at pa
 have pr6:PairsAt H6 D (c9 (duB r o outs) o.length o.length):=by
  obtain⟨vs,h1,h2⟩:=pr;exact⟨vs,tk6.lst tk'.tab _ _ h1,ad (λv p ⟨b,e,q⟩=>⟨b,e,tk6.tup tk'.tab _ _ q⟩) h2⟩
 lk;refine rn pa pr6 ?_;exact k _ (tk'.trans tk6)
end
theorem ib {α β:Type} {F:α->β->Prop} {y:α} {t:β} (h:F y t):∀{xs:List α} {ts:List β} (i:Nat),Paired F xs ts->Paired F (xs.take i++y::xs.drop i) (ts.take i++t::ts.drop i)
 | xs,ts,0,p=>by simpa using Paired.cons h p
 | _,_,i+1,.nil=>by simpa using Paired.cons h .nil
 | _,_,i+1,.cons r p=>by
  simp only[List.take_succ_cons,List.drop_succ_cons,List.cons_append];exact .cons r (ib h i p)
theorem uK (ts:List α) (t:α) (i:Nat):(ts.take i++t::ts.drop i).Perm (t::ts):=by
 have:=List.perm_middle (a:=t) (l₁:=ts.take i) (l₂:=ts.drop i);rwa [XX]at this
def oQ (ws:List Str):List Tu:=ws.flatMap λn=>[(n, "+"),(n, "-")]
theorem gm:∀ws:List Str,(oQ ws).Perm (bW ws)
 | []=>.refl _
 | x::ws=>by
  show (((x, "+"):Tu)::((x, "-"):Tu)::oQ ws).Perm ((((x, "+"):Tu)::(ws.map λn=>((n, "+"):Tu)))++(((x, "-"):Tu)::(ws.map λn=>((n, "-"):Tu))));refine .cons _ ?_;exact((gm ws).cons _).trans List.perm_middle.symm
theorem rM {ws:List Str} {n:Str} (h:ws[i]?=some n):oQ (ws.take (i+1))=oQ (ws.take i)++([(n, "+"),(n, "-")]:List Tu):=by
 unfold oQ;rw[XI,h,List.flatMap_append];rfl
theorem yi {K:PySem.W.Frag} {xs ys:List V} {n1 n2:Nd} (h1:H a=some (.lst xs)) (p1:Paired (SgA H) xs n1) (h2:H b=some (.lst ys)) (p2:Paired (SgA H) ys n2) (ne:n1≠n2) (q:Q (.bl false) H):g_ K false (.ref a) (.ref b) H Q:=by
 have l1:=am p1;have l2:=am p2;refine⟨a,b,xs,ys,λj=>decide (n1[j]?=n2[j]?),rfl,rfl,SqL.of h1,SqL.of h2,λj x y ex ey=>?_,?_⟩
 ·obtain⟨p,ep,c,rfl,hc⟩:=paired_get p1 ex;obtain⟨p',ep',d,rfl,hd⟩:=paired_get p2 ey;have z:=qi (K:=K) (n:=7) (x:=[.inr p.1,.inl (p.2:Int)]) (y:=[.inr p'.1,.inl (p'.2:Int)]) hc hd rfl
  have e:decide (([.inr p.1,.inl (p.2:Int)]:List Key)=[.inr p'.1,.inl (p'.2:Int)])=decide (n1[j]?=n2[j]?):=by
   rw[ep,ep'];refine Xs.mpr ⟨λh=>?_,λh=>by cases h;rfl⟩;simp only[X0,Sum.inr.injEq,Sum.inl.injEq,and_true]at h;rw[Prod.ext h.1 (by omega)]
  rw[e]at z;exact z
 rw[Qn Qr,show (xs.length==ys.length&&(List.range xs.length).all λj=>decide (n1[j]?=n2[j]?))=false from ?_]
 ·exact q
 refine Bool.eq_false_iff.mpr λz=>ne ?_;rw[Xr,beq_iff_eq,QX]at z;obtain⟨z1,z2⟩:=z;refine XW λj=>?_;by_cases hj:j<xs.length
 ·exact Xv (z2 j (QR.mpr hj))
 rw[QU (by omega),QU (by omega)]
theorem rm {K:PySem.W.Frag} (h1:PairsAt H a ps) (h2:PairsAt H b ps) (q:Q (.bl false) H):g_ K true (.ref a) (.ref b) H Q:=by
 obtain⟨vs,e1,p1⟩:=h1;obtain⟨us,e2,p2⟩:=h2;have l1:=am p1;have l2:=am p2;refine zI (SqL.of e1) (SqL.of e2) (by omega) (λj x y ex ey=>?_) q;obtain⟨p,ep,c,rfl,hc⟩:=paired_get p1 ex;obtain⟨p',ep',d,rfl,hd⟩:=paired_get p2 ey;rw[ep]at ep';cases ep';exact qh (SqT.of hc) (SqT.of hd) rfl (jM rfl)
theorem uU {m:Nat} {p:Nat × Nat} (h:p∈c9 f n m):p.1<p.2/\f p.1 p.2=true/\p.1<m/\p.2<n:=by
 obtain⟨i,hi,h⟩:=List.mem_flatMap.mp h;obtain⟨j,hj,rfl⟩:=Ql.mp h;obtain⟨hj,c⟩:=QP.mp hj;rw[Xr,X6]at c;exact⟨c.1,c.2,QR.mp hi,QR.mp hj⟩
theorem wn (h:clB s lam i j=true):s.R i/\s.R j/\lam i=lam j/\s.node i≠s.node j:=by
 have h:=@Xv _ (Classical.propDecidable _) h;refine⟨h.1,h.2.1,h.2.2.1,λz=>h.2.2.2 ?_⟩;unfold bz;rw[z]
def sC (o:List Tu) (x:Str) (k:Nat):Bool:=xor (decide (o.idxOf ((x, "-"):Tu)<o.idxOf ((x, "+"):Tu))) (xor (decide (((x, "+"):Tu)∈o.take k)) (decide (((x, "-"):Tu)∈o.take k)))
def duK (o:List Tu) (ws outs:List Str) (i j:Nat):Bool:=decide (∀x∈ws,sC o x i=sC o x j)&&(decide (xC o i≠xC o j)&&(decide (xC o i∈outs) || decide (xC o j∈outs)))
theorem Cyc.duK (c:Cyc r o) (hi:i<o.length) (hj:j<o.length):duB r o outs i j=K2.duK o r.ws outs i j:=by
 unfold duB K2.duK;congr 1;rw[eA (hV hi),eA (hV hj)];have ri:=c.rd i (by omega);have rj:=c.rd j (by omega);refine Xs.mpr ⟨λh x hx=>?_,λh=>?_⟩
 ·have a:=ri.s x hx;have b:=rj.s x hx;rw[h,b,c.z x hx]at a;exact a.symm
 refine ke ri.st rj.st λk hk=>?_;have hx:=QW hk;have ei:=c.ok.nd.idxOf_getElem k hk;have e:=h _ hx;generalize r.ws[k]=x at hx ei e;rw[<-ei,ri.s x hx,rj.s x hx,c.z x hx];exact e
def oA:List Tu:=[("a", "+"),("a", "-"),("b", "+"),("b", "-")]
def oB:List Tu:=[("a", "+"),("b", "+"),("a", "-"),("b", "-")]
def abS:List Str:=["a", "b"]
theorem zq:c9 (duK oA abS abS) 4 4=[(0,2)]:=by decide +kernel
theorem zp:c9 (duK oB abS abS) 4 4=[]:=by decide +kernel
theorem vL:oA.Perm (bW abS):=by decide +kernel
theorem vK:oB.Perm (bW abS):=by decide +kernel
theorem qx:abS.Nodup:=by decide +kernel
theorem sO {ws:List Str} (nd:ws.Nodup) (p:o.Perm (bW ws)):o.Nodup/\∀t,t∈o↔ca ws t:=⟨(p.nodup_iff).mpr (m_ nd),λt=>p.mem_iff.trans bS⟩
def pq (K:PySem.W.Frag) (TL:Addr):Sp:=λvs H Q _=>∃(a:Addr) (ns:List Int),vs=[.ref a]/\SqL K H a (ns.map V.int)/\ns.length<=63/\cz TL ba H/\∀H',Q (.bl true) H'
theorem jj {K:PySem.W.Frag} {D':Dk} {xs:List V} (h:SqL K H0 a xs) (q:∀o,H0 a=some o->H a=some o/\¬D'.own a) (tb:cz TL ba H) (k:Kt TL D' H H'):SqL K H' a xs:=by
 rcases h with h|h
 ·left
  rcases h with h|⟨o,h⟩
  ·exact .inl (k.old _ _ (q _ h).1 (q _ h).2 (di tb (q _ h).1 λ_ z=>nomatch z))
  exact .inr ⟨o,k.old _ _ (q _ h).1 (q _ h).2 (di tb (q _ h).1 λ_ z=>nomatch z)⟩
 exact .inr h
theorem sR {K:PySem.W.Frag} {xs:List V} {σ:L2.St} (hl:H l=some (.lst xs)) (q:∀H',ak H H'->Q (.bl (decide (xs.length=0))) H'):rZ j3 σ H λy H2=>g_ K false (.ref l) y H2 Q:=by
 refine i_lst (bo ⟨by simp[sizeLine],λp hp=>?_⟩);refine⟨l,p,xs,[],λ_=>true,rfl,rfl,SqL.of (ar hp _ _ hl),SqL.of ag,λj x y _ e=>by simp at e,?_⟩
 have e:(if false=true then !(xs.length==([]:List V).length&&(List.range xs.length).all λ_=>true) else (xs.length==([]:List V).length&&(List.range xs.length).all λ_=>true))=decide (xs.length=0):=by
  rw[Qn Qr,iT,Bool.and_true];rfl
 rw[e];exact q _ (ar hp)
theorem Kp.setNew (k:Kp D H H') {o:HO} (ha:H a=none) (na:¬D.own a):Kp D H (upd H' a o):=by
 obtain⟨x,y,z,h,r⟩:=k.dk;refine⟨λb u e nb=>?_,x,y,z,?_,r⟩
 ·rw[ah (λq=>by rw[q,ha]at e;cases e)];exact k.old b u e nb
 rw[ah (λq=>na q.symm)];exact h
section
theorem xA:FnScope ["script", "k", "pool", "names", "turns", "name", "rise", "turn", "at", "found", "signs", "one", "other", "order"] ["script"] (aw (top 32)):=by fin2
theorem tR {TL:Addr} {f:Addr} {fd:FuncData} (Fu:Fun K "law" "law" (top 32) f fd) (T:Txt K mg TT) (f_law_pool:Fn P w K mg base "_law_pool" ["script", "k"] 1 (sD K)) (f_law_take:Fn P w K mg base "_law_take" ["pool", "many"] 1 fc) (f_law_names:Fn P w K mg base "_law_names" ["pool", "many"] 2 gP) (f_law_order:Fn P w K mg base "_law_order" ["pool", "things"] 2 (j4 K)) (f_law_ring_right:Fn P w K mg base "_law_ring_right" ["order", "outputs", "inputs"] 6 (yQ TL)) (f_law_ring:Fn P w K mg base "_law_ring" ["pool"] 3 sy) (f_unfolded:Fn P w K mg base "unfolded" ["ring_sheet"] 5 sx) (f_signs_of:Fn P w K mg base "signs_of" ["sheet"] 4 (gD TL)) (f_clash_pairs:Fn P w K mg base "clash_pairs" ["sheet"] 5 (j8 TL)) (f_law_ringed:Fn P w K mg base "_law_ringed" ["order", "outputs", "inputs"] 2 gO):FnOk P w K mg base CX0 7 f fd ["script"] (pq K TL):=by
 have S:=xA;refine Fu.ok S (by room) (λcdv A outer s H vs Q E hr h=>?_);obtain⟨sc,cells,rfl,hS,hlen,tb,k⟩:=h;have hu:=cB hr;refine'⟨?_,?bb,?_⟩
 case bb =>
  walk_at "b";walk_at "f";exact(cD (by rfl) T.n_range (aa (aF (rH rfl) (by rfl) T.n_max PyProof.Rows.boot_max (aa af (aa (aF (gj rfl) (by rfl) T.n_min PyProof.Rows.boot_min (aa af (aa (aF az (by rfl) T.n_len QV (aa (pv 0) ac ae)) ac aM) ay)) ac aM) ay)) ac aM));exact(bD 1 S.nd);walk_at "p";exact aE 2 S.nd (aH f_law_pool hr (aa (pv 0) (aa (pv 1) ac ae) ae));exact aE 3 S.nd (aH f_law_names hr (aa (pv 2) (aa (aO bX af (aH f_law_take hr (aa (pv 2) (aa af ac ay) ae))) ac) ae));exact aE 4 S.nd (a_ ac);walk_at "f";exact(br (aH f_law_order hr (aa (pv 2) (aa (pv 3) ac ae) ae)));exact(bD 5 S.nd);walk_at "p";refine' aE 6 S.nd ?e
  case e =>
   walk_at "q";exact(pv 5);exact(pv 5)
  walk_at "f";exact(br (aH f_law_order hr (aa (pv 2) (aa (pv 6) ac ae) ae)));exact(bD 7 S.nd);walk_at "p";exact(bM (bE QB PySem.F.slot_list_insert PySem.F.type_list_insert nZ (pv 4) (aa (aH f_law_take hr (aa (pv 2) (aa (aO bX (aF az (by rfl) T.n_len QV (aa (pv 4) ac ae)) af) ac) ae)) (aa (pv 7) ac ae) aM)));exact aE 8 S.nd (aH f_law_take hr (aa (pv 2) (aa (aF (gj rfl) (by rfl) T.n_min PyProof.Rows.boot_min (aa af (aa (aF az (by rfl) T.n_len QV (aa (pv 3) ac ae)) ac aM) ay)) ac aM) ae));exact(xI (sY (aH f_law_ring_right hr (aa (pv 4) (aa (cx gE (pv 3) (cQ (pv 8)) cR) (aa (cx gE (pv 3) cR (cQ (pv 8))) ac)) ae))));exact(aW jv);exact aE 9 S.nd (aH f_unfolded hr (aa (aH f_law_ring hr (aa (pv 2) ac ae)) ac aM));exact(aB dP (ao ax (pv 9) af) aI (aJ _));exact aE 10 S.nd (aH f_signs_of hr (aa (ao ax (pv 9) af) ac));walk_at "f";exact(br (aH f_clash_pairs hr (aa (ao ax (pv 9) af) ac)));exact(fh rfl (bg (bD 11 S.nd) (bg (bD 12 S.nd) cS)));walk_at "p";exact(PW.pt (pI (aB wX (pv 11) (pv 12) (aJ _)) (pI (aB l9 (ao aD (pv 10) (pv 11)) (ao aD (pv 10) (pv 12)) (aJ _)) (nJ (aB (ii hr.units) (ao aD (ao ax (ao ax (pv 9) af) af) (pv 11)) (ao aD (ao ax (ao ax (pv 9) af) af) (pv 12)) (aJ _))))));exact(aW jv);generalize hEe:Expr.List _ _=ee;refine' kw (i:=13) S.nd rfl (by z_go) ?e ?s (by z_go)
  case s=>subst hEe;rfl
  case e =>
   subst hEe
   with_reducible refine' a_ ?a50
   case a50 =>
    with_reducible refine' aa ?e51 ?s51 se_tup
    case e51 =>
     with_reducible refine' be ?a52
     case a52 =>
      with_reducible refine' aa ?e53 ?s53 ay
      case e53 =>
       exact aI
      case s53 =>
       with_reducible refine' aa ?e55 ?s55 ay
       case e55 =>
        exact aI
       case s55 =>
        exact ac
    case s51 =>
     with_reducible refine' aa ?e57 ?s57 se_tup
     case e57 =>
      with_reducible refine' be ?a58
      case a58 =>
       with_reducible refine' aa ?e59 ?s59 ay
       case e59 =>
        exact aI
       case s59 =>
        with_reducible refine' aa ?e61 ?s61 ay
        case e61 =>
         exact aI
        case s61 =>
         exact ac
     case s57 =>
      with_reducible refine' aa ?e63 ?s63 se_tup
      case e63 =>
       with_reducible refine' be ?a64
       case a64 =>
        with_reducible refine' aa ?e65 ?s65 ay
        case e65 =>
         exact aI
        case s65 =>
         with_reducible refine' aa ?e67 ?s67 ay
         case e67 =>
          exact aI
         case s67 =>
          exact ac
      case s63 =>
       with_reducible refine' aa ?e69 ?s69 se_tup
       case e69 =>
        with_reducible refine' be ?a70
        case a70 =>
         with_reducible refine' aa ?e71 ?s71 ay
         case e71 =>
          exact aI
         case s71 =>
          with_reducible refine' aa ?e73 ?s73 ay
          case e73 =>
           exact aI
          case s73 =>
           exact ac
       case s69 =>
        exact ac
  exact(aB (ig hr.units) (aH f_clash_pairs hr (aa (ao ax (aH f_unfolded hr (aa (aH f_law_ringed hr (aa (pv 13) (aa (a_ (aa aI (aa aI ac ay) ay)) (aa (a_ ac) ac se_lst) se_lst) ae)) ac aM)) af) ac)) (a_ (aa (be (aa af (aa af ac ay) ay)) ac se_tup)) (aJ _));exact(aW jv);generalize hEe:Expr.List _ _=ee;refine' kw (i:=13) S.nd rfl (by z_go) ?e ?s (by z_go)
  case s=>subst hEe;rfl
  case e =>
   subst hEe
   with_reducible refine' a_ ?a81
   case a81 =>
    with_reducible refine' aa ?e82 ?s82 se_tup
    case e82 =>
     with_reducible refine' be ?a83
     case a83 =>
      with_reducible refine' aa ?e84 ?s84 ay
      case e84 =>
       exact aI
      case s84 =>
       with_reducible refine' aa ?e86 ?s86 ay
       case e86 =>
        exact aI
       case s86 =>
        exact ac
    case s82 =>
     with_reducible refine' aa ?e88 ?s88 se_tup
     case e88 =>
      with_reducible refine' be ?a89
      case a89 =>
       with_reducible refine' aa ?e90 ?s90 ay
       case e90 =>
        exact aI
       case s90 =>
        with_reducible refine' aa ?e92 ?s92 ay
        case e92 =>
         exact aI
        case s92 =>
         exact ac
     case s88 =>
      with_reducible refine' aa ?e94 ?s94 se_tup
      case e94 =>
       with_reducible refine' be ?a95
       case a95 =>
        with_reducible refine' aa ?e96 ?s96 ay
        case e96 =>
         exact aI
        case s96 =>
         with_reducible refine' aa ?e98 ?s98 ay
         case e98 =>
          exact aI
         case s98 =>
          exact ac
      case s94 =>
       with_reducible refine' aa ?e100 ?s100 se_tup
       case e100 =>
        with_reducible refine' be ?a101
        case a101 =>
         with_reducible refine' aa ?e102 ?s102 ay
         case e102 =>
          exact aI
         case s102 =>
          with_reducible refine' aa ?e104 ?s104 ay
          case e104 =>
           exact aI
          case s104 =>
           exact ac
       case s100 =>
        exact ac
  with_reducible refine' aW ?e
  case e =>
   exact(cK (ii hr.units) (aH f_clash_pairs hr (aa (ao ax (aH f_unfolded hr (aa (aH f_law_ringed hr (aa (pv 13) (aa (a_ (aa aI (aa aI ac ay) ay)) (aa (a_ ac) ac se_lst) se_lst) ae)) ac aM)) af) ac)) (a_ ac) (aJ _))
 x_go;lk;refine⟨_,_,rfl,Or.inl hS,?_⟩;lk;refine⟨_,_,rfl,?_⟩;lk;refine⟨_,_,rfl,?_⟩;rw[Qd]
 obtain⟨N,hN,N6⟩:∃N:Nat,(if (if (cells.length:Int)<5 then (cells.length:Int) else 5)>1 then (if (cells.length:Int)<5 then (cells.length:Int) else 5) else 1)=(N:Int)/\N<=5:=by
  by_cases h2:(cells.length:Int)<5
  ·rw[Qs h2];by_cases h1:(cells.length:Int)>1
   ·rw[Qs h1];exact⟨cells.length,rfl,by omega⟩
   rw[Qn h1];exact⟨1,rfl,by omega⟩
  rw[Qn h2,Qs (by decide)];exact⟨5,rfl,by omega⟩
 rw[hN];lk;refine⟨by omega,by omega,?_⟩;rw[Q2];let I30:IvF:=λi σ H'=>(∃x1 x2 x3 x4 x5 x6 x7 x8 x9 x10 x11 x12 x13,σ=[some (.ref sc),x1,x2,x3,x4,x5,x6,x7,x8,x9,x10,x11,x12,x13])/\SqL K H' sc (cells.map V.int)/\cz TL ba H';refine cU (n:=N) I30 ⟨⟨_,_,_,_,_,_,_,_,_,_,_,_,_,rfl⟩,hS,tb⟩ (λi σ H0 hi pv=>?_) (λσ H' pv=>?_)
 ·clear hS tb;obtain⟨⟨u1,u2,u3,u4,u5,u6,u7,u8,u9,u10,u11,u12,u13,rfl⟩,hS,tb⟩:=pv;refine aA ?_;lk;refine⟨sc,cells,i,by rw[Int.zero_add],hS,by omega,λD H1 dn S1 D0 DA1=>?_⟩;have tb1:=bF tb S1;have hS1:SqL K H1 sc (cells.map V.int):=ph hS λo e=>S1 _ _ e;have q1:∀o,H0 sc=some o->H1 sc=some o/\sc≠D.d:=λo e=>⟨S1 _ _ e,aq e D0⟩;have kp1:Kp (D.more 0) H1 H1:=Kp.of DA1 (ak.refl _);lk;refine bi kp1 (by omega) (by omega) (by omega) λx1 H2 x10 x11 o2 kp2=>?_;lk;refine⟨D.more 1,(1+x1).toNat,by rw[show (((1+x1).toNat:Nat):Int)=1+x1 by omega];rfl,kp2.dk,by show D.n+1<50000;omega,by omega,by omega,λnl ws H3 kp3 hnl wl wnd wlow qn=>?_⟩;have kpa:Kp (D.more 201) H1 H3:=kp2.trans (kp3.le (Qg _));have nl1:H1 nl=none:=kp2.free hnl;have w1:1<=ws.length:=by omega
  have w5:ws.length<=5:=by omega
  clear o2 kp2 kp3;lk;refine⟨by simp[sizeLine],λtl htl=>?_⟩;have tl1:H1 tl=none:=kpa.free htl;have ntl:tl≠nl:=λz=>by rw[z,qn]at htl;cases htl
  ctx_has H3 tl H4 S4 qtl aj htl;have kp4:=kpa.trans (Kp.of kpa.dk S4);lk;refine⟨D.more 201,nl,ws.map V.str,rfl,kp4.dk,SqL.of (S4 _ _ qn),by show D.n+201<50000;omega,by rw[Qd];omega,λol ys H5 kp5 hol pys qol=>?_⟩;obtain⟨nm,pnm,rfl⟩:=gr.perm_lift pys;have kpb:Kp (D.more 301) H1 H5:=kp4.trans (kp5.le (Qg _));have ol1:H1 ol=none:=kp4.free hol;have nnl:¬D.own nl:=aC DA1 nl1;have ntl':¬D.own tl:=aC DA1 tl1;have nol:¬D.own ol:=aC DA1 ol1;have olt:ol≠tl:=λz=>by rw[z,qtl]at hol;cases hol
  have qn5:=kp5.old _ _ (S4 _ _ qn) nnl;have qtl5:=kp5.old _ _ qtl ntl';have ln5:nm.length<=5:=by rw[pnm.length_eq];omega
  clear kp5 kp4 S4 kpa hnl htl qtl kp1 hol pys;refine⟨ol,rfl,⟨_,SqL.of qol⟩,?_⟩;let I31:IvF:=λj σ H'=>∃(y5 y6 y7:Option V) (tv:List V) (ts:List Tu),σ=[some (.ref sc),some (.int (0+(i:Int))),some (.ref D.d),some (.ref nl),some (.ref tl),y5,y6,y7,u8,u9,u10,u11,u12,u13]/\Kp (D.more (301+102*j)) H1 H'/\H' nl=some (.lst (ws.map V.str))/\H' ol=some (.lst (nm.map V.str))/\H' tl=some (.lst tv)/\Paired (TuA H') tv ts/\ts.Perm (oQ (nm.take j));refine bY (xs:=nm.map V.str) I31 ⟨_,_,_,[],[],rfl,kpb,qn5,qol,qtl5,.nil,.refl _⟩ (λj σ H' _ ⟨_,_,_,_,_,_,_,_,h,_⟩=>SqL.of h) (λj v σ H' ev pv=>?_) (λσ H' pv=>?_)
  ·obtain⟨y5,y6,y7,tv,ts,rfl,kp,qn',qol',qtl',ptv,pts⟩:=pv;have jl:=(Qc.mp ev).1;rw[Qd]at jl;rw[Qq]at ev;obtain⟨n,en,rfl⟩:=Xu.mp ev;kt_k;lk;refine⟨by simp[sizeLine],λp1 h1=>?_⟩;ctx_has H' p1 G1 T1 g1 aj h1;lk;refine⟨by simp[sizeLine],λp2 h2=>?_⟩;ctx_has G1 p2 G2 T2 g2 aj h2;lk;refine⟨by simp[sizeLine],λrl h3=>?_⟩;ctx_has G2 rl G3 T3 g3 aj h3;have T13:=(T1.trans T2).trans T3;have kpc:=kp.trans (Kp.of kp.dk T13);have po:Paired (TuA G3) [.ref p1,.ref p2] [(n, "+"),(n, "-")]:=.cons ⟨p1,rfl,T3 _ _ (T2 _ _ g1)⟩ (.cons ⟨p2,rfl,T3 _ _ g2⟩ .nil);kt_k;lk;refine⟨D.more (301+102*j),rl,_,rfl,kpc.dk,SqL.of g3,by show D.n+(301+102*j)<50000;omega,by show 2<=100;omega,λlq ys H6 kp6 hlq pys qlq=>?_⟩;obtain⟨rs,prs,pmr⟩:=Ht.paired_perm pys po;have ly:ys.length=2:=pys.length_eq;have lr:rs.length=2:=pmr.length_eq;have kt6:a9 G3 H6:=Kp.tups (D:=(D.more (301+102*j)).more 100) (kpc.dk.le (QM _ _)) kp6;have kpd:Kp (D.more (301+102*j+100)) H1 H6:=kpc.trans (kp6.le (Qg _));have lq1:H1 lq=none:=kpc.free hlq;have nlq:¬D.own lq:=aC DA1 lq1;have lqt:lq≠tl:=λz=>by rw[z,T13 _ _ qtl']at hlq;cases hlq
   have prs6:=ad (λ_ _ h=>h.kt kt6) prs;have ptv6:=ad (λ_ _ h=>(h.kt (ak.tups T13)).kt kt6) ptv;have qn6:=kp6.old _ _ (T13 _ _ qn') nnl;have qol6:=kp6.old _ _ (T13 _ _ qol') nol;have qtl6:=kp6.old _ _ (T13 _ _ qtl') ntl';have g36:=kp6.old _ _ g3 (aC (D:=D) DA1 (kp.free (bJ (T1.trans T2) h3)));clear kt6 kpc kp6 hlq prs ptv qn' qol' qtl' T13 T1 T2 T3 g1 g2 g3 kp po;refine⟨lq,rfl,⟨_,SqL.of qlq⟩,?_⟩;let I32:IvF:=λq σ H'=>∃(y7:Option V) (tv:List V) (ts:List Tu),σ=[some (.ref sc),some (.int (0+(i:Int))),some (.ref D.d),some (.ref nl),some (.ref tl),some (.str n),some (.ref rl),y7,u8,u9,u10,u11,u12,u13]/\Kp (D.more (301+102*j+100+q)) H1 H'/\H' nl=some (.lst (ws.map V.str))/\H' ol=some (.lst (nm.map V.str))/\H' lq=some (.lst ys)/\H' tl=some (.lst tv)/\Paired (TuA H') ys rs/\Paired (TuA H') tv ts/\ts.Perm (oQ (nm.take j)++rs.take q);refine bY (xs:=ys) I32 ⟨_,_,_,rfl,kpd,qn6,qol6,qlq,qtl6,prs6,ptv6,by rw[List.take_zero,XG];exact pts⟩ (λq σ H' _ ⟨_,_,_,_,_,_,_,h,_⟩=>SqL.of h) (λq v σ H' ev pv=>?_) (λσ H' pv=>?_)
   ·obtain⟨y7,tv,ts,rfl,kp,qn',qol',qlq',qtl',prs',ptv,pts⟩:=pv;have ql:=(Qc.mp ev).1;obtain⟨t,et,tt⟩:=paired_get prs' ev;have ltv:=am ptv
    have lts:ts.length<=20:=by
     have:=pts.length_eq;rw[Qi,(gm _).length_eq,dD,QN,QN]at this;omega
    kt_k;lk;refine bi kp (by omega) (by omega) (by omega) λr H7 r0 r1 o7 kp7=>?_;obtain⟨m,rfl⟩:∃m:Nat,r=(m:Int):=⟨r.toNat,by omega⟩;have k7:a9 H' H7:=kp.kt o7;have qtl7:=o7 _ _ qtl' ntl';have ku:=bU (o:=.lst (tv.take m++v::tv.drop m)) qtl7;have up:∀{b:Addr} {o:HO},H' b=some o->¬D.own b->b≠tl->upd H7 tl (.lst (tv.take m++v::tv.drop m)) b=some o:=λe n z=>by rw[ah z];exact o7 _ _ e n
    lk;refine⟨tl,tv,_,m,rfl,rfl,by omega,by omega,qtl7,by omega,?_⟩;lk;refine⟨_,_,ts.take m++t::ts.drop m,rfl,kp7.setNew tl1 ntl',up qn' nnl ntl.symm,up qol' nol olt,up qlq' nlq lqt,ag,ad (λ_ _ h=>(h.kt k7).kt ku) prs',ib ((tt.kt k7).kt ku) m (ad (λ_ _ h=>(h.kt k7).kt ku) ptv),?_⟩;refine(uK ts t m).trans ((pts.cons t).trans ?_);rw[XI,et,<-XN];exact(List.perm_append_singleton t _).symm
   obtain⟨y7,tv,ts,rfl,kp,qn',qol',qlq',qtl',prs',ptv,pts⟩:=pv;rw[ly]at kp pts;lk;refine⟨_,_,_,tv,ts,rfl,kp.up (by omega),qn',qol',qtl',ptv,?_⟩;rw[rM en];rw[Q8 (l:=rs) (by omega)]at pts;exact pts.trans (List.Perm.append_left _ pmr)
  obtain⟨y5,y6,y7,tv,ts,rfl,kp,qn',qol',qtl',ptv,pts⟩:=pv;rw[Qd]at kp pts;rw[List.take_length]at pts;obtain⟨ond,all0⟩:=sO (pnm.nodup_iff.mpr wnd) (pts.trans (gm nm));have all:∀t,t∈ts↔ca ws t:=λt=>(all0 t).trans ⟨λh=>⟨pnm.mem_iff.mp h.1,h.2⟩,λh=>⟨pnm.mem_iff.mpr h.1,h.2⟩⟩;have kpe:Kp (D.more 811) H1 H':=kp.up (by omega);clear kp pts all0 kpb qn5 qtl5 qol qol';lk;refine⟨5,_,rfl,?_⟩;rw[Qd];lk;refine bi kpe (by omega) (by split <;> omega) (by split <;> omega) λr H8 r0 r1 o8 kp8=>?_;obtain⟨m,rfl⟩:∃m:Nat,r=(m:Int):=⟨r.toNat,by omega⟩;have rl:m<ws.length:=by split at r1 <;> omega
  have k8:=kpe.kt o8;have qn8:=o8 _ _ qn' nnl;have qtl8:=o8 _ _ qtl' ntl';have pt8:=ad (λ_ _ h=>TuA.kt k8 h) ptv;clear qn' qtl' ptv k8 o8 kpe;lk;refine p8 (SqL.of qn8) λlo hlo=>?_;rw[mU (by rw[Qd];omega),<-List.map_drop];ctx_has H8 lo H9 S9 q9 aj hlo;have qn9:=S9 _ _ qn8;lk;refine p8 (SqL.of qn9) λli hli=>?_;rw[uJ (by rw[Qd];omega),<-List.map_take];ctx_has H9 li Ha Sa qa aj hli;have S8a:=S9.trans Sa;have kpf:=kp8.trans (Kp.of kp8.dk S8a);have tba:=wH tb1 DA1 kpf rfl;have ews:ws.take m++ws.drop m=ws:=XX _ _;lk;refine⟨tl,lo,li,tv,ts,ws.take m,ws.drop m,rfl,S8a _ _ qtl8,ad (λ_ _ h=>TuA.kt (ak.tups S8a) h) pt8,Sa _ _ q9,qa,by rw[ews];exact wnd,by rw[ews];exact w1,by rw[ews];exact w5,ond,by rw[ews];exact all,tba,λHb tkb=>?_⟩;have ktb:=(Kt.of_kp (D:=D.more 812) tb1 (DA1.le (QM _ _)) kpf).trans (Kt.of_tk tba kpf.dk tkb);refine⟨_,rfl,ifF rfl ?_⟩;clear tkb tba kpf kp8 S8a Sa S9 qn9 qn8 qtl8 pt8 q9 qa all ond;lk;refine⟨D.more 812,rfl,ktb.dk,by show D.n+812<40000;omega,λa li' lo' l as r Hc kc _ atc ok full rx=>?_⟩;have ktc:=ktb.trans (Kt.of_kp ktb.tab (ktb.dk.le (D':=(D.more 812).more 1000) (QM _ _)) kc);lk;refine⟨a,li',lo',l,as,r,rfl,atc,ok,λvd us Hd Sd wt rd=>?_⟩;have ktd:=ktc.trans (Kt.of_kp ktc.tab ktc.dk (Kp.of ktc.dk Sd));have hSd:=jj (D':=(D.more 812).more 1000) hS q1 tb1 ktd
  cases eU:unf r us with
  | odd way word =>
   rw[eU]at rd;obtain⟨fa,fl,rfl,hfa,_⟩:=rd;lk;refine ifF (Qw (λz=>by have:=V.str.inj z;revert this;decide +kernel)) (s_next ⟨⟨_,_,_,_,_,_,_,_,_,_,_,_,_,rfl⟩,hSd,ktd.tab⟩)
  | many =>
   rw[eU]at rd;obtain⟨fa,rfl,hfa⟩:=rd;lk;refine ifF (Qw (λz=>by have:=V.str.inj z;revert this;decide +kernel)) (s_next ⟨⟨_,_,_,_,_,_,_,_,_,_,_,_,_,rfl⟩,hSd,ktd.tab⟩)
  | sheet nds =>
  rw[eU]at rd;obtain⟨ps,sp⟩:=jf ok wt eU;obtain⟨fa,s,sli,slo,sln,nas,rfl,hfa,sa,_,_⟩:=eG rd;have shok:=sp.shok ok wt;have lab:=sp.lab ok wt;lk;refine ifT (Qu rfl) ?_;lk;refine⟨s,sli,slo,sln,nas,bZ r nds,rfl,sa,shok,ktd.tab,λsl sv He tke hsl qsl sg=>?_⟩;have sae:=sa.tk ktd.tab tke;have hfae:=tke.tup ktd.tab _ _ hfa;have kte:=ktd.trans (Kt.of_tk ktd.tab ktd.dk tke);lk;refine⟨s,sli,slo,sln,nas,bZ r nds,c7 ps,rfl,sae,shok,lab,kte.tab,λL Hf tkf hL pa=>?_⟩;obtain⟨pvs,hpv,pp⟩:=pa;have saf:=sae.tk kte.tab tkf;have hfaf:=tkf.tup kte.tab _ _ hfae;have qslf:=tkf.lst kte.tab _ _ qsl;have ktf:=kte.trans (Kt.of_tk kte.tab kte.dk tkf);have hSf:=jj (D':=(D.more 812).more 1000) hS q1 tb1 ktf;clear hSd hfae hfa qsl sa sae ktb ktc ktd kte tke tkf rd atc;refine⟨L,rfl,⟨_,SqL.of hpv⟩,?_⟩;let I33:IvF:=λq σ H'=>∃(y11 y12:Option V),σ=[some (.ref sc),some (.int (0+(i:Int))),some (.ref D.d),some (.ref nl),some (.ref tl),y5,y6,y7,some (.int (m:Int)),some (.ref fa),some (.ref sl),y11,y12,u13]/\ak Hf H';refine bY (xs:=pvs) I33 ⟨_,_,rfl,ak.refl _⟩ (λq σ H' _ ⟨_,_,_,S'⟩=>SqL.of (S' _ _ hpv)) (λq v σ H' ev pv=>?_) (λσ H' pv=>?_)
  ·obtain⟨y11,y12,rfl,S'⟩:=pv;obtain⟨⟨n1,n2⟩,eq,b,rfl,hb⟩:=paired_get pp ev;obtain⟨lt,cl,i1,i2⟩:=uU (Qh eq);obtain⟨r1,r2,el,nn⟩:=wn cl;dsimp only at lt cl i1 i2 r1 r2 el nn;have hfa':=S' _ _ hfaf;have sa':=saf.same S';have ha':=sa'.ha;have qsl':=S' _ _ qslf;obtain⟨z1,e1,_,l1⟩:=sg.row _ r1;obtain⟨z2,e2,_,l2⟩:=sg.row _ r2;refine⟨b,_,rfl,SqT.of (S' _ _ hb),rfl,_,_,rfl,aA ⟨_,_,rfl,aA ⟨rfl,?_⟩⟩⟩;lk;refine ifF (Qw (by show ¬((n2:Int)<=(n1:Int));omega)) ?_;have ez:z1=z2:=by rw[<-l1 _ lab,<-l2 _ lab];exact el
   have g1:=Qb (l:=(bZ r nds).nodes) (i:=n1) i1;have g2:=Qb (l:=(bZ r nds).nodes) (i:=n2) i2;obtain⟨na1,v1,hna1,hv1,pv1⟩:=sa'.nd (show (bZ r nds).nodes[n1]?=some ((bZ r nds).node n1) by rw[Sh.node_of g1,g1]);obtain⟨na2,v2,hna2,hv2,pv2⟩:=sa'.nd (show (bZ r nds).nodes[n2]?=some ((bZ r nds).node n2) by rw[Sh.node_of g2,g2]);lk;refine bj (SqL.of qsl') (aY e1) ?_;lk;refine bj (SqL.of qsl') (aY e2) ?_;lk;refine ifF (by rw[ez];simp) ?_;lk;refine bj (SqL.of sa'.hn) (aY hna1) ?_;lk;refine bj (SqL.of sa'.hn) (aY hna2) ?_;refine yi hv1 pv1 hv2 pv2 nn ?_;lk;exact⟨_,_,rfl,S'⟩
  obtain⟨y11,y12,rfl,S'⟩:=pv;lk;exact⟨⟨_,_,_,_,_,_,_,_,_,_,_,_,_,rfl⟩,ph hSf λo e=>S' _ _ e,bF ktf.tab S'⟩
 obtain⟨⟨u1,u2,u3,u4,u5,u6,u7,u8,u9,u10,u11,u12,u13,rfl⟩,_,tbz⟩:=pv;clear hS tb;lk;refine⟨by simp[sizeLine],λp1 h1=>?_⟩;ctx_has H' p1 G1 T1 g1 aj h1;lk;refine⟨by simp[sizeLine],λp2 h2=>?_⟩;ctx_has G1 p2 G2 T2 g2 aj h2;lk;refine⟨by simp[sizeLine],λp3 h3=>?_⟩;ctx_has G2 p3 G3 T3 g3 aj h3;lk;refine⟨by simp[sizeLine],λp4 h4=>?_⟩;ctx_has G3 p4 G4 T4 g4 aj h4;lk;refine⟨by simp[sizeLine],λol h5=>?_⟩;ctx_has G4 ol G5 T5 g5 aj h5;have po:Paired (TuA G5) [.ref p1,.ref p2,.ref p3,.ref p4] oA:=.cons ⟨p1,rfl,T5 _ _ (T4 _ _ (T3 _ _ (T2 _ _ g1)))⟩ (.cons ⟨p2,rfl,T5 _ _ (T4 _ _ (T3 _ _ g2))⟩ (.cons ⟨p3,rfl,T5 _ _ (T4 _ _ g3)⟩ (.cons ⟨p4,rfl,T5 _ _ g4⟩ .nil)));have tb5:=bF tbz ((((T1.trans T2).trans T3).trans T4).trans T5);clear T1 T2 T3 T4 T5 g1 g2 g3 g4 h1 h2 h3 h4 h5;lk;refine⟨by simp[sizeLine],λlo h6=>?_⟩;ctx_has G5 lo G6 T6 g6 aj h6;lk;refine⟨by simp[sizeLine],λli h7=>?_⟩;ctx_has G6 li G7 T7 g7 aj h7;obtain⟨ond,all⟩:=sO qx vL;have T57:=T6.trans T7;have tb7:=bF tb5 T57;lk;refine⟨ol,lo,li,_,oA,[],abS,rfl,T57 _ _ g5,ad (λ_ _ h=>TuA.kt (ak.tups T57) h) po,T7 _ _ g6,g7,qx,by decide,by decide,ond,all,λa l as r G8 T8 atr ei eo cyc=>?_⟩;have tb8:=bF tb7 T8;have ew:r.ws=abS:=by unfold Rg.ws;rw[ei,eo];rfl
 clear T6 T7 T57 g5 g6 g7 po tb5 tb7 h6 h7 T8;lk;refine⟨a,li,lo,l,as,r,rfl,atr,cyc.ok,λvd us G9 T9 wt rd=>?_⟩;obtain⟨eU,sp⟩:=cyc.unf wt;rw[eU]at rd;obtain⟨fa,s,sli,slo,sln,nas,rfl,hfa,sa,_,_⟩:=eG rd;have tb9:=bF tb8 T9;have shok:=sp.shok cyc.ok wt;have lab:=sp.lab cyc.ok wt;have lnd:(bZ r (cE oA)).nodes.length=4:=by show (cE oA).length=_;unfold cE;rw[Qd,Q3];rfl
 lk;refine⟨s,sli,slo,sln,nas,bZ r (cE oA),c7 (psC r oA),rfl,sa,shok,lab,tb9,λL G10 tk10 hL pa=>?_⟩;rw[lnd,fA (n:=4) (g:=duK oA r.ws r.outs) (λi j hi hj=>(cyc.due wt (show i<oA.length from hi) (show j<oA.length from hj)).trans (cyc.duK hi hj)),ew,eo,zq]at pa;have tbA:=tk10.tab;clear tb9 tb8 T9 rd sa hfa shok lab sp eU wt cyc atr all ond lnd;lk;refine⟨by simp[sizeLine],λt ht=>?_⟩;ctx_has G10 t G11 T11 g11 aj ht;lk;refine⟨by simp[sizeLine],λL2 hL2=>?_⟩;ctx_has G11 L2 G12 T12 g12 aj hL2;refine rm (pa.same (T11.trans T12)) ⟨_,g12,.cons ⟨t,rfl,T12 _ _ g11⟩ .nil⟩ ?_;refine⟨_,rfl,ifF rfl ?_⟩;have tbB:=bF tbA (T11.trans T12);clear pa T11 T12 g11 g12 hL2 ht tbA tk10 hL ew ei eo;lk;refine⟨by simp[sizeLine],λp1 h1=>?_⟩;ctx_has G12 p1 G1 T1 g1 aj h1;lk;refine⟨by simp[sizeLine],λp2 h2=>?_⟩;ctx_has G1 p2 G2 T2 g2 aj h2;lk;refine⟨by simp[sizeLine],λp3 h3=>?_⟩;ctx_has G2 p3 G3 T3 g3 aj h3;lk;refine⟨by simp[sizeLine],λp4 h4=>?_⟩;ctx_has G3 p4 G4 T4 g4 aj h4;lk;refine⟨by simp[sizeLine],λol h5=>?_⟩;ctx_has G4 ol G5 T5 g5 aj h5;have po:Paired (TuA G5) [.ref p1,.ref p2,.ref p3,.ref p4] oB:=.cons ⟨p1,rfl,T5 _ _ (T4 _ _ (T3 _ _ (T2 _ _ g1)))⟩ (.cons ⟨p2,rfl,T5 _ _ (T4 _ _ (T3 _ _ g2))⟩ (.cons ⟨p3,rfl,T5 _ _ (T4 _ _ g3)⟩ (.cons ⟨p4,rfl,T5 _ _ g4⟩ .nil)));have tb5:=bF tbB ((((T1.trans T2).trans T3).trans T4).trans T5);clear T1 T2 T3 T4 T5 g1 g2 g3 g4 h1 h2 h3 h4 h5;lk;refine⟨by simp[sizeLine],λlo h6=>?_⟩;ctx_has G5 lo G6 T6 g6 aj h6;lk;refine⟨by simp[sizeLine],λli h7=>?_⟩;ctx_has G6 li G7 T7 g7 aj h7;obtain⟨ond,all⟩:=sO qx vK;have T57:=T6.trans T7;have tb7:=bF tb5 T57;lk;refine⟨ol,lo,li,_,oB,[],abS,rfl,T57 _ _ g5,ad (λ_ _ h=>TuA.kt (ak.tups T57) h) po,T7 _ _ g6,g7,qx,by decide,by decide,ond,all,λa l as r G8 T8 atr ei eo cyc=>?_⟩;have tb8:=bF tb7 T8;have ew:r.ws=abS:=by unfold Rg.ws;rw[ei,eo];rfl
 clear T6 T7 T57 g5 g6 g7 po tb5 tb7 h6 h7 T8;lk;refine⟨a,li,lo,l,as,r,rfl,atr,cyc.ok,λvd us G9 T9 wt rd=>?_⟩;obtain⟨eU,sp⟩:=cyc.unf wt;rw[eU]at rd;obtain⟨fa,s,sli,slo,sln,nas,rfl,hfa,sa,_,_⟩:=eG rd;have tb9:=bF tb8 T9;have shok:=sp.shok cyc.ok wt;have lab:=sp.lab cyc.ok wt;have lnd:(bZ r (cE oB)).nodes.length=4:=by show (cE oB).length=_;unfold cE;rw[Qd,Q3];rfl
 lk;refine⟨s,sli,slo,sln,nas,bZ r (cE oB),c7 (psC r oB),rfl,sa,shok,lab,tb9,λL G10 tk10 hL pa=>?_⟩;rw[lnd,fA (n:=4) (g:=duK oB r.ws r.outs) (λi j hi hj=>(cyc.due wt (show i<oB.length from hi) (show j<oB.length from hj)).trans (cyc.duK hi hj)),ew,eo,zp]at pa;have tbA:=tk10.tab;clear tb9 tb8 T9 rd sa hfa shok lab sp eU wt cyc atr all ond lnd;lk;obtain⟨vs,hv,pv⟩:=pa;cases pv;refine sR (σ:=[]) hv λHz _=>?_;lk;exact k _
end
end K2
namespace K2
open PySem L2 PySem.Spec PyProof.Rows
theorem t_ {A:Type} {us:List A} (h:us.length=1):∃a0,us=[a0]:=by
 match us,h with
 | [a0],_=>exact⟨_,rfl⟩
theorem zy {A:Type} {us:List A} (h:us.length=2):∃a0 a1,us=[a0,a1]:=by
 match us,h with
 | [a0,a1],_=>exact⟨_,_,rfl⟩
theorem zx {A:Type} {us:List A} (h:us.length=3):∃a0 a1 a2,us=[a0,a1,a2]:=by
 match us,h with
 | [a0,a1,a2],_=>exact⟨_,_,_,rfl⟩
structure FX (K:PySem.W.Frag) (n:Str) (i:Nat) (f:Addr) (cd:Value):Prop where
 a:PySem.W.nsIn K mainGlobals n=some (some (.ref f))
 l:∃oc od kV dc pm an ct sl,K.lookup f=some ⟨oc,od,.func (PySem.W.fnOf n n (cL (top i)) (bV (top i)) (aw (top i)) .none kV dc pm an cd ct),sl⟩
 c:PySem.W.codeIn K cd n=true
 k:PySem.W.keepIn K (.ref f)=true
variable {f fa TL0:Addr}
theorem FX.fn {K:PySem.W.Frag} {n:Str} {i:Nat} {cd:Value} {h:Heap} {mg:A2} (X:K.In h) (G:h.Ns mainGlobals mg) (x:FX K n i f cd):∃fd,Fun K n n (top i) f fd/\mg n=some (.ref f):=by
 obtain⟨a,⟨_,_,_,_,_,_,_,_,l⟩,c,k⟩:=x;exact⟨_,ox (st:=top i) l c k,PySem.W.mg_of X G a⟩
abbrev ZN (K:PySem.W.Frag) (n:Str):Prop:=PySem.W.nsIn K mainGlobals n=some none
theorem bn1 {p:List Value->Prop} (h:∀a0,p [a0]) (us:List Value) (hl:us.length=1):p us:=by
 obtain⟨a0,e⟩:=t_ hl;subst e;exact h a0
theorem bn2 {p:List Value->Prop} (h:∀a0 a1,p [a0,a1]) (us:List Value) (hl:us.length=2):p us:=by
 obtain⟨a0,a1,e⟩:=zy hl;subst e;exact h a0 a1
theorem bn3 {p:List Value->Prop} (h:∀a0 a1 a2,p [a0,a1,a2]) (us:List Value) (hl:us.length=3):p us:=by
 obtain⟨a0,a1,a2,e⟩:=zx hl;subst e;exact h a0 a1 a2
theorem FX.go (P:Program) (w:World) (base:Heap) {K:PySem.W.Frag} {n:Str} {i k:Nat} {cd:Value} {h:Heap} {mg:A2} {ps:List Str} {sp:Sp} (X:K.In h) (G:h.Ns mainGlobals mg) (x:FX K n i f cd) (o:∀fd,Fun K n n (top i) f fd->mg n=some (.ref f)->iY K fd ps []->FnOk P w K mg base CX0 k f fd ps sp)
  (hb:∀(kV doc pm:Value) (an:Option Addr) (cdv ct:Value) (us:List Value),us.length=ps.length->bindArgs (PySem.W.fnOf n n (cL (top i)) (bV (top i)) (aw (top i)) .none kV doc pm an cdv ct) ⟨us,[]⟩=pure (ps.zip us):=by intro _ _ _ _ _ _;first|exact bn1 λ_=>rfl|exact bn2 λ_ _=>rfl|exact bn3 λ_ _ _=>rfl):Fn P w K mg base n ps k sp:=by
 obtain⟨fd,F,m⟩:=x.fn X G;have b:=F.binds hb;exact⟨f,fd,o fd F m b,m,x.k,b⟩
theorem yy {l:PySem.W.OpenLaw} {w:World} {K:PySem.W.Frag} {h:Heap} {mg:A2} (X:K.In h) (G:h.Ns mainGlobals mg) (hfa:mg "law" = some (.ref fa))
  (aT:PySem.W.nsIn K mainGlobals "TURNED" = some (some (.ref 15))) (tab:jg K 15 [("0", .flat (.str "1")),("1", .flat (.str "0"))])
  (aS:PySem.W.nsIn K mainGlobals "SIGNS_AHEAD" = some (some (.ref 59))) (tabS:jg K 59 [("+", .flat (.str "0")),("-", .flat (.str "1"))])
  (cn0:PySem.W.nsIn K mainGlobals "MOST_NODES" = some (some (.int 40 223)))
  (x0:FX K "turned_at" 2 22 (.ref 21)) (x1:FX K "found_from" 4 29 (.ref 28)) (x2:FX K "row_behind" 7 36 (.ref 35)) (x3:FX K "rows_found" 8 43 (.ref 42))(h3:PySem.W.codeHdIn K 42 38=true) (x4:FX K "signs_of" 9 48 (.ref 47)) (x5:FX K "outputs_wanted" 11 53 (.ref 52)) (x6:FX K "clash_pairs" 12 58 (.ref 57)) (x7:FX K "waiting_turns" 15 64 (.ref 63)) (x8:FX K "first_marks" 16 69 (.ref 68)) (x9:FX K "may_come" 17 74 (.ref 73)) (x10:FX K "mark_behind" 18 81 (.ref 80)) (x11:FX K "marks_behind" 19 86 (.ref 85)) (x12:FX K "steps_at" 20 93 (.ref 92)) (x13:FX K "odd_word" 21 100 (.ref 99)) (x14:FX K "unfolded" 22 107 (.ref 106)) (x15:FX K "_law_pool" 24 114 (.ref 113)) (x16:FX K "_law_take" 25 121 (.ref 120)) (x17:FX K "_law_names" 26 126 (.ref 125)) (x18:FX K "_law_order" 27 133 (.ref 132)) (x19:FX K "_law_arcs" 28 138 (.ref 137)) (x20:FX K "_law_ring" 29 143 (.ref 142)) (x21:FX K "_law_ringed" 30 148 (.ref 147)) (x22:FX K "_law_ring_right" 31 153 (.ref 152)) (x23:FX K "law" 32 160 (.ref 159))
  (z0:ZN K "len") (z1:ZN K "range") (z2:ZN K "max") (z3:ZN K "min") (z4:ZN K "int") (z5:ZN K "list") (z6:ZN K "str") (z7:ZN K "isinstance") (z8:ZN K "all") (z9:ZN K "set") (z10:ZN K "dict") (z11:ZN K "enumerate") (z12:ZN K "sorted") (z13:ZN K "tuple") (z14:ZN K "bool") (z15:ZN K "zip") (z16:ZN K "reversed")
  : ∃fd:FuncData,(∀(s:Shared) (v:Value),BindsTo s fd ⟨[v],[]⟩ [("script", v)])/\∀base:Heap,K.In base->base.Ns mainGlobals mg->L2.eY base mg->FnOk l.prog w K mg base CX0 7 fa fd ["script"] (pq K 38):=by
 have e:=hfa.symm.trans (PySem.W.mg_of X G x23.a);cases e;have T:Txt K mg 15:=⟨Q0 X G z0,Q0 X G z1,Q0 X G z2,Q0 X G z3,Q0 X G z4,Q0 X G z5,Q0 X G z6,Q0 X G z7,Q0 X G z8,Q0 X G z9,Q0 X G z10,Q0 X G z11,Q0 X G z12,Q0 X G z13,Q0 X G z14,Q0 X G z15,Q0 X G z16,⟨_,PySem.W.mg_of X G cn0⟩,⟨_,PySem.W.mg_of X G aS,tabS⟩,PySem.W.mg_of X G aT,tab⟩;obtain⟨a3,⟨_,_,_,_,_,_,_,_,l3⟩,c3,k3⟩:=x3;have m3:=PySem.W.mg_of X G a3;have F3:=ox (st:=top 8) l3 c3 k3;have b3:=F3.binds (ps:=["sheet"]) λ_ _ _ _ _ _ us hl=>by obtain⟨_,rfl⟩:=t_ hl;rfl
 obtain⟨a23,⟨_,_,kV,dc,pm,an,ct,_,l23⟩,c23,k23⟩:=x23;have m23:=PySem.W.mg_of X G a23;have F23:=ox (st:=top 32) l23 c23 k23;have b23:=F23.binds (ps:=["script"]) λ_ _ _ _ _ _ us hl=>by obtain⟨_,rfl⟩:=t_ hl;rfl
 refine⟨PySem.W.fnOf "law" "law" (cL (top 32)) (bV (top 32)) (aw (top 32)) .none kV dc pm an (.ref 159) ct,λs v=>.of_eq rfl,λbase KB _ BM=>?_⟩;have CT0:=PySem.W.codeHd_of_K KB h3;have FC3:FunC K "rows_found" "rows_found" (top 8) 43 _ 42:=⟨_,_,_,_,_,_,_,_,rfl,l3,c3⟩;have g15:=x15.go l.prog w base X G λ_ F _ _=>vF F T;have g16:=x16.go l.prog w base X G λ_ F _ _=>vC F T;have g17:=x17.go l.prog w base X G λ_ F _ _=>qU F T g16;have g18:=x18.go l.prog w base X G λ_ F _ _=>tP F T g16;have g8:=x8.go l.prog w base X G λ_ F _ _=>tT F T;have g7:=x7.go l.prog w base X G λ_ F _ _=>vB F T;have g9:=x9.go l.prog w base X G λ_ F _ _=>xX F T;have g10:=x10.go l.prog w base X G λ_ F _ _=>vG F T;have g11:=x11.go l.prog w base X G λ_ F _ _=>tQ F T g10;have g0:=x0.go l.prog w base X G λ_ F _ _=>qR F T;have g2:=x2.go l.prog w base X G λ_ F _ _=>qV F T g0;have g12:=x12.go l.prog w base X G λ_ F _ _=>tN F T g7 g9 g11 g2;have g13:=x13.go l.prog w base X G λ_ F _ _=>xW F T;have g14:=x14.go l.prog w base X G λ_ F _ _=>xV F T g8 g12 g13;have g21:=x21.go l.prog w base X G λ_ F _ _=>qS F T;have g1:=x1.go (sp:=(j5 l.prog w K mg base 1)) l.prog w base X G λ_ F _ _=>tS F T;have g2qS:=x2.go l.prog w base X G λ_ F _ _=>nR F T g0;have g3:Fn l.prog w K mg base "rows_found" ["sheet"] 3 (nE 38):=⟨_,_,vD FC3 T CT0 BM g1 g2qS,m3,k3,b3⟩;have g4:=x4.go l.prog w base X G λ_ F _ _=>tO F T g3;have g5:=x5.go l.prog w base X G λ_ F _ _=>qQ F T;have g6:=x6.go l.prog w base X G λ_ F _ _=>tU F T g4 g5;have g22:=x22.go l.prog w base X G λ_ F _ _=>zo F T g14 g21 g4 g6;have g19:=x19.go l.prog w base X G λ_ F _ _=>vH F T g16;have g20:=x20.go l.prog w base X G λ_ F _ _=>vE F T g16 g17 g18 g19;exact tR F23 T g15 g16 g17 g18 g22 g20 g14 g4 g6 g21
theorem zZ {l:PySem.W.OpenLaw} {q:Program} {loose:List Str} {XP:A2->Heap->Prop} {d:DefRec} {K:Params->PySem.W.Frag} {as:A3} {e:∀P,as=(K P).map (·.1)} (hn:l.most=some 63) (hdf:d.params.defaults=[]) (ok:∀w:World,fL (K w.params) [TL0]=true)
  (F:∀(w:World) (mg:A2) (fa:Addr) (h:Heap),(K w.params).In h->h.Ns mainGlobals mg->mg d.name=some (.ref fa) ->
   ∃fd:FuncData,(∀(s:Shared) (u:Value),BindsTo s fd ⟨[u],[]⟩ [("script", u)])/\∀base:Heap,(K w.params).In base->base.Ns mainGlobals mg->L2.eY base mg->FnOk l.prog w (K w.params) mg base CX0 7 fa fd ["script"] (pq (K w.params) TL0)) :
  PySem.W.WalkO q loose XP (PySem.W.kmHook K as e [TL0]).says l.row.toRowW d [] (λf vs=>PySem.call f vs) :=
 L2.rQ (n:=63) (k:=7) (x := "script") (CX:=λ_=>CX0) (sp:=λw=>pq (K w.params) TL0) hn (by decide) hdf ⟨rfl,by decide,by decide⟩ ok F (λ_ _ a ns hl hT hS=>⟨a,ns,rfl,hS,hl,(.inl (hT _ (by simp))),λ_=>rfl⟩) λ_ _ _ _ _ z=>z
end K2
open PySem PySem.W PyProof.Rows
set_option maxRecDepth 100000 in
set_option maxHeartbeats 0 in
theorem PySem.Challenge.cw_anydelay_k60_whole_rings_with_clashes_holds : PySem.Challenge.rw_anydelay_k60_whole_rings_with_clashes.Holds := by
 w_on;refine holds_law K2.sd λsaid=>?_
 refine holds_open (q:=K2.vw) (loose:=[("TURNED" : Str),("SIGNS_AHEAD" : Str)]) (Xt:=λs=>xlAt K2.vw [] s&&recOk (RowW.records PySem.Challenge.rw_anydelay_k60_whole_rings_with_clashes.row.toRowW) s) (XP:=XL K2.vw []) (Yf:=Hook.obs K2.hk) (Ya:=Hook.val K2.hk) (YP:=Hook.says K2.hk) (N:=1846) K2.left (Hook.of K2.hk) (Hook.keeps K2.hk) (λs e=>xl_of s (Bool.and_eq_true_iff.mp e).1) XL.keeps (by rfl) (by rfl) (by rfl) (λs e=>recFacts_of (Bool.and_eq_true_iff.mp e).2) (by rfl) (by first|assumption|decide +kernel) (by decide +kernel) ⟨rfl,rfl,rfl,rfl,rfl,by decide +kernel⟩ ?hw ?hc
 (case hw=>w_witness2)
 refine K2.zZ (l:=PySem.Challenge.rw_anydelay_k60_whole_rings_with_clashes) (K:=K2.KF) (as:=[3,15,21,22,28,29,35,36,42,43,47,48,52,53,57,58,59,63,64,68,69,73,74,80,81,85,86,92,93,99,100,106,107,113,114,120,121,125,126,132,133,137,138,142,143,147,148,152,153,159,160]) (e:=λ_=>rfl) rfl rfl (λw=>by kernel_rfl) ?F
 case F =>
  intro w mg fa h KX G hmg;refine' K2.yy KX G hmg ?_ ?_ ?_ ?_ ?_ ?_ ?_ ?_ ?_ ?_ ?_ ?_ ?_ ?_ ?_ ?_ ?_ ?_ ?_ ?_ ?_ ?_ ?_ ?_ ?_ ?_ ?_ ?_ ?_ ?_ ?_ ?_ ?_ ?_ ?_ ?_ ?_ ?_ ?_ ?_ ?_ ?_ ?_ ?_ ?_ ?_ ?_
  all_goals first|exact⟨by kernel_rfl,⟨_,_,_,_,_,_,_,_,rfl⟩,by kernel_rfl,by kernel_rfl⟩|kernel_rfl|rfl|decide|decide +kernel
