import PyProof.Rows.All
import Wide.All
import OpenK.AllK
import Wide.FinOn
import Lean
import PyProof.EqAt
import PyProof.EqKinds
import PyProof.TupleCall
import PyProof.NeKinds
import KE.KTabLook
import KE.KIntText
import KE.KUnpack
import PyProof.StrBlock2
import KE.KLam
import KE.KDictLaws
import PyProof.DictWalks
import PyProof.Rows.StrInSeq3
import PyProof.FactsAll.list_1
import PyProof.Rows.SortShellK
import PyProof.Rows.SortKeyStr
import KE.KSortTup
import KE.KDictSum
import KE.KItemsList
import PyProof.Rows.SortStr
import PyProof.ZipIter
import PyProof.Draws
import PyProof.AttrMissHeap
import PyProof.DictUpdate
import PyProof.ListNew
import PyProof.FactsAll.dict_1
import PyProof.Rows.DictSet
import PyProof.ForAppend
import KE.KDictList
import PyProof.TupleIter
import PyProof.CompUse
import PyProof.EnumMake
import PyProof.Rows.CallKwBuiltin
import OpenK.KMore
import PyProof.SeqWrite
import PyProof.FactsAll.list_4
import PyProof.StationsW
import PyProof.RulesAs
import PyProof.ExcClass2
import KE.KTryMore
import PyProof.InstStoreFacts
import PyProof.ExcBaseAll.ValueError
import PyProof.NsDelKeeps
import PyProof.Rows.SeqIn
import PyProof.ListRange
import PySem.Challenge.RW_anydelay_k53_whole_unfolded_sheets
namespace PySem
abbrev B0:=Value->Shared->Prop
abbrev B1:=List (Addr × Obj)
abbrev B2:=Str->Option Value
abbrev B3:=List Addr
end PySem
set_option linter.all false
set_option maxRecDepth 100000
set_option Elab.async false
abbrev Qa:=@PySem.wpAny_bind
abbrev Qb:=@List.length_map
abbrev Qc:=@PySem.Heap.get?_push_of_some
abbrev Qd:=@List.getElem?_eq_some_iff
abbrev Qe:=@List.getElem?_eq_getElem
abbrev Qf:=@PySem.wpAny_pure
abbrev Qg:=@Nat.le_refl
abbrev Qh:=@List.length_append
abbrev Qi:=@Array.length_toList
abbrev Qj:=@List.mem_cons
abbrev Qk:=@List.mem_of_getElem?
abbrev Ql:=@List.size_toArray
abbrev Qm:=@List.mem_map
abbrev Qn:=@List.mem_cons_of_mem
abbrev Qo:=@if_neg
abbrev Qp:=@List.getElem?_map
abbrev Qq:=@PySem.Heap.lt_size
abbrev Qr:=@Bool.false_ne_true
abbrev Qs:=@if_pos
abbrev Qt:=@PySem.Heap.get?_push_size
abbrev Qu:=@decide_eq_false
abbrev Qv:=@decide_eq_true
abbrev Qw:=@List.map_cons
abbrev Qx:=@List.getD_eq_getElem?_getD
abbrev Qy:=@List.mem_singleton
abbrev Qz:=@List.mem_append
abbrev QA:=@List.not_mem_nil
abbrev QB:=@Nat.ne_of_lt
abbrev QC:=@List.getElem?_append_left
abbrev QE:=@PySem.F.plainAttrs_list
abbrev QF:=@Option.some.inj
abbrev QG:=@Bool.false_eq_true
abbrev QH:=@List.mem_append_right
abbrev QI:=@List.map_append
abbrev QJ:=@Nat.le_trans
abbrev QK:=@List.getElem?_append_right
abbrev QL:=@PySem.boot_len
abbrev QM:=@Array.getElem?_eq_getElem
abbrev QN:=@Nat.lt_of_lt_of_le
abbrev QO:=@List.length_take
abbrev QP:=@List.length_singleton
abbrev QQ:=@Nat.le_add_right
abbrev QR:=@Nat.zero_le
abbrev QS:=@List.idxOf_lt_length_of_mem
abbrev QT:=@List.all_eq_true
abbrev QU:=@List.nodup_cons
abbrev QV:=@List.take_of_length_le
abbrev QW:=@List.mem_filter
abbrev QX:=@PySem.W.mg_none_of
abbrev QY:=@List.getElem?_eq_none
abbrev QZ:=@PySem.wpAny_holding
abbrev Q0:=@PySem.F.slot_list_append
abbrev Q2:=@PySem.F.type_list_append
abbrev Q3:=@List.map_map
abbrev Q4:=@PySem.wpAny_call_entry
abbrev Q5:=@List.lookup_cons
abbrev Q6:=@Array.getElem?_toList
abbrev Q7:=@Int.toNat_natCast
abbrev Q8:=@Option.map_eq_some_iff
abbrev Q9:=@List.getElem_mem
abbrev Xa:=@PySem.Heap.SameBut.update
abbrev Xb:=@List.mem_append_left
abbrev Xc:=@PyProof.Rows.boot_isinstance
abbrev Xd:=@PyProof.Rows.callWith_type1
abbrev Xe:=@Array.getD_eq_getD_getElem?
abbrev Xf:=@List.getElem_of_mem
abbrev Xg:=@PySem.Heap.size_push
abbrev Xh:=@PySem.wpAny_callSpecial?_slot
abbrev Xi:=@PySem.wpAny_newObj_type
abbrev Xj:=@or_false
abbrev Xk:=@PySem.F.slot_list_index
abbrev Xl:=@PySem.F.type_list_index
abbrev Xm:=@PySem.Heap.get?_update_self
abbrev Xo:=@PyProof.Rows.boot_int
abbrev Xp:=@List.mem_cons_self
abbrev Xq:=@PySem.Heap.get?_update_other
abbrev Xr:=@PySem.Paired.length
abbrev Xs:=@PySem.Around.under_plainId
abbrev Xu:=@of_decide_eq_true
abbrev Xv:=@List.pairwise_map
abbrev Xw:=@PySem.wpAny_setState_of
abbrev Xx:=@List.mem_range
abbrev Xy:=@PySem.wpAny_field
abbrev Xz:=@Bool.and_eq_true
abbrev XA:=@List.length_cons
abbrev XB:=@decide_eq_true_iff
abbrev XD:=@if_false
abbrev XF:=@PySem.codeAny_builtin
abbrev XG:=@List.length_drop
abbrev XH:=@List.take_succ
abbrev XI:=@PySem.Calls.spliced_cons
abbrev XJ:=@PySem.Obj.data_mapFields
abbrev XM:=@PySem.F.called_set
abbrev XQ:=@PySem.wpAny_seqItems
abbrev XR:=@Bool.eq_iff_iff
abbrev XS:=@List.map_congr_left
abbrev XT:=@PySem.wpAny_mono
abbrev XU:=@List.length_filter_le
abbrev XV:=@PyProof.Rows.boot_all
abbrev XW:=@PySem.wpAny_truthy_bool
abbrev XX:=@List.append_assoc
abbrev XY:=@Nat.lt_of_le_of_lt
abbrev XZ:=@PySem.sizeLine_eq
abbrev X0:=@PySem.wpAny_setField_rec
abbrev X1:=@Bool.not_true
abbrev X2:=@PySem.W.kia_one
abbrev X3:=@Nat.le_succ
abbrev X4:=@List.nodup_append
abbrev X5:=@List.length_replicate
abbrev X6:=@List.take_append_drop
abbrev X7:=@Nat.le_of_lt
abbrev X8:=@Nat.not_lt_zero
abbrev X9:=@PySem.F.slot_dict_keyiterator_next
abbrev Za:=@PyProof.Rows.F.plain_set_update_loop
abbrev Zb:=@Nat.lt_irrefl
abbrev Zc:=@PySem.W.mg_of
local macro_rules|`(tactic|z_go)=>`(tactic|first|exact .inl rfl|exact .inr rfl|assumption)
noncomputable section
namespace L2
open PySem
def cQ (s:Stmt):Arguments:=match s with
 | .FunctionDef _ a _ _ _ _ _ _ _ _=>a
 | _=>{ posonlyargs:=[],args:=[],vararg:=none,kwonlyargs:=[],kw_defaults:=[],kwarg:=none,defaults:=[] }
def b9 (s:Stmt):List Stmt:=match s with
 | .FunctionDef _ _ b _ _ _ _ _ _ _=>b
 | _=>[]
def au (s:Stmt):Scope:=match s with
 | .FunctionDef _ _ _ _ _ _ sc _ _ _=>sc
 | _=>{ kind:=.function,names:=[],isGenerator:=false,isCoroutine:=false }
end L2
namespace K2
open PySem L2 PySem.W
def top (i:Nat):Stmt:=PySem.Challenge.pw_anydelay_k53_whole_unfolded_sheets.main.body.getD i (.Pass ⟨0,0,0,0⟩)
noncomputable def kC (n:Str) (t:Nat) (l a fl:Int) (r:Addr) (x y:Value) (z:Addr) (u:Nat):Obj:={ cls:=.type "code", data:=.fields #[.str n t,.str n (t+1),.str "/claim/cut.py" (t+2),.int l 0,.int a 0,.int 0 0,.int 0 0,.int 3 0,.ref r,.bool true,.int fl 0,.ref (r+1),.none,x,y,.ref z,.int u 0,.int l 0,.str "/claim/cut.py" (u+1)] }
noncomputable def kF (n:Str) (i:Nat) (m:Str) (t:Nat) (c:Addr):Obj:={ cls:=.type "function", data:=.func { name:=n,qualname:=n,params:=cQ (top i),body:=.stmts (b9 (top i)),scope:=au (top i),globals:=3,closure:=[],defaults:=.none,kwdefaults:=.none,pyModule:=.str m t,code:=.ref c } }
def kE (P:Params) (x:Str) (t:Nat) (v:Value):DictEntry:={ hash:=PyData.keyHash P x,key:=.str x t,val:=v }
noncomputable def KF (P:Params):Frag:=[(3,{ cls:=.type "dict", data:=.dict #[kE P "__name__" 165 (.str "law_anydelay_k53_whole_unfolded_sheets" 420),kE P "__doc__" 166 .none,kE P "__package__" 167 .none,kE P "__loader__" 168 (.builtin "__main__.__loader__#opaque"),kE P "__spec__" 169 .none,kE P "__annotations__" 170 (.ref 6),kE P "__builtins__" 171 (.ref 4),kE P "__file__" 173 (.str "/claim/cut.py" 172),kE P "__cached__" 174 .none,kE P "LETTERS" 190 (.str "abcdefghijklmnopqrstuvwxyz" 189),kE P "MOST_LETTERS" 192 (.int 8 191),kE P "MOST_INPUTS" 194 (.int 4 193),kE P "MOST_GATES" 196 (.int 7 195),kE P "TURNED" 203 (.ref 15),kE P "is_name" 209 (.ref 20),kE P "is_pair" 216 (.ref 27),kE P "is_whole" 223 (.ref 34),kE P "is_number_below" 231 (.ref 41),kE P "is_row" 237 (.ref 46),kE P "are_unlike_names" 243 (.ref 51),kE P "turned_at" 251 (.ref 58),kE P "found_from" 268 (.ref 65),kE P "MOST_NODES" 272 (.int 40 271),kE P "is_turn" 281 (.ref 72),kE P "is_node" 287 (.ref 77),kE P "has_wires" 293 (.ref 82),kE P "has_sheet_form" 299 (.ref 87),kE P "row_behind" 308 (.ref 94),kE P "rows_found" 321 (.ref 101),kE P "has_one_row_each" 327 (.ref 106),kE P "is_sheet" 334 (.ref 113),kE P "signs_of" 340 (.ref 118),kE P "SIGNS_AHEAD" 349 (.ref 119),kE P "waiting_turns" 355 (.ref 124),kE P "first_marks" 361 (.ref 129),kE P "may_come" 367 (.ref 134),kE P "mark_behind" 376 (.ref 141),kE P "marks_behind" 382 (.ref 146),kE P "steps_at" 393 (.ref 153),kE P "odd_word" 404 (.ref 160),kE P "unfolded" 419 (.ref 167),kE P "_law_pool" 430 (.ref 174),kE P "_law_take" 441 (.ref 181),kE P "_law_names" 447 (.ref 186),kE P "_law_order" 457 (.ref 193),kE P "_law_arcs" 463 (.ref 198),kE P "_law_ring" 469 (.ref 203),kE P "_law_behind" 481 (.ref 210),kE P "_law_odd_right" 487 (.ref 215),kE P "_law_sheet_right" 493 (.ref 220),kE P "law" 504 (.ref 227)] 51 }),
 (15,{ cls:=.type "dict", data:=.dict #[kE P "0" 197 (.str "1" 198),kE P "1" 199 (.str "0" 200)] 2 }),
 (19,kC "is_name" 204 7 1 181 16 .none .none 18 207),
 (20,kF "is_name" 6 "anydelay.nets" 187 19),
 (26,kC "is_pair" 210 11 1 181 21 (.ref 23) (.ref 24) 25 214),
 (27,kF "is_pair" 7 "anydelay.nets" 187 26),
 (33,kC "is_whole" 217 13 1 181 28 (.ref 30) (.ref 31) 32 221),
 (34,kF "is_whole" 8 "anydelay.nets" 187 33),
 (40,kC "is_number_below" 224 15 2 181 35 (.ref 37) (.ref 38) 39 229),
 (41,kF "is_number_below" 9 "anydelay.nets" 187 40),
 (45,kC "is_row" 232 17 2 181 42 .none .none 44 235),
 (46,kF "is_row" 10 "anydelay.nets" 187 45),
 (50,kC "are_unlike_names" 238 21 1 181 47 .none .none 49 241),
 (51,kF "are_unlike_names" 11 "anydelay.nets" 187 50),
 (57,kC "turned_at" 244 23 2 181 52 (.ref 54) (.ref 55) 56 249),
 (58,kF "turned_at" 12 "anydelay.nets" 187 57),
 (64,kC "found_from" 254 26 2 181 59 (.ref 61) (.ref 62) 63 266),
 (65,kF "found_from" 14 "anydelay.orders" 252 64),
 (71,kC "is_turn" 273 43 3 181 66 (.ref 68) (.ref 69) 70 279),
 (72,kF "is_turn" 17 "anydelay.sheets" 269 71),
 (76,kC "is_node" 282 47 3 181 73 .none .none 75 285),
 (77,kF "is_node" 18 "anydelay.sheets" 269 76),
 (81,kC "has_wires" 288 51 1 181 78 .none .none 80 291),
 (82,kF "has_wires" 19 "anydelay.sheets" 269 81),
 (86,kC "has_sheet_form" 294 58 1 181 83 .none .none 85 297),
 (87,kF "has_sheet_form" 20 "anydelay.sheets" 269 86),
 (93,kC "row_behind" 300 64 3 181 88 (.ref 90) (.ref 91) 92 306),
 (94,kF "row_behind" 21 "anydelay.sheets" 269 93),
 (100,kC "rows_found" 309 66 1 181 95 (.ref 97) (.ref 98) 99 319),
 (101,kF "rows_found" 22 "anydelay.sheets" 269 100),
 (105,kC "has_one_row_each" 322 73 1 181 102 .none .none 104 325),
 (106,kF "has_one_row_each" 23 "anydelay.sheets" 269 105),
 (112,kC "is_sheet" 328 79 1 181 107 (.ref 109) (.ref 110) 111 332),
 (113,kF "is_sheet" 24 "anydelay.sheets" 269 112),
 (117,kC "signs_of" 335 81 1 181 114 .none .none 116 338),
 (118,kF "signs_of" 25 "anydelay.sheets" 269 117),
 (119,{ cls:=.type "dict", data:=.dict #[kE P "+" 343 (.str "0" 344),kE P "-" 345 (.str "1" 346)] 2 }),
 (123,kC "waiting_turns" 350 86 1 181 120 .none .none 122 353),
 (124,kF "waiting_turns" 28 "anydelay.turnsheets" 341 123),
 (128,kC "first_marks" 356 88 1 181 125 .none .none 127 359),
 (129,kF "first_marks" 29 "anydelay.turnsheets" 341 128),
 (133,kC "may_come" 362 90 3 181 130 .none .none 132 365),
 (134,kF "may_come" 30 "anydelay.turnsheets" 341 133),
 (140,kC "mark_behind" 368 92 3 181 135 (.ref 137) (.ref 138) 139 374),
 (141,kF "mark_behind" 31 "anydelay.turnsheets" 341 140),
 (145,kC "marks_behind" 377 96 3 181 142 .none .none 144 380),
 (146,kF "marks_behind" 32 "anydelay.turnsheets" 341 145),
 (152,kC "steps_at" 383 98 2 181 147 (.ref 149) (.ref 150) 151 391),
 (153,kF "steps_at" 33 "anydelay.turnsheets" 341 152),
 (159,kC "odd_word" 394 105 3 181 154 (.ref 156) (.ref 157) 158 402),
 (160,kF "odd_word" 34 "anydelay.turnsheets" 341 159),
 (166,kC "unfolded" 405 111 1 181 161 (.ref 163) (.ref 164) 165 417),
 (167,kF "unfolded" 35 "anydelay.turnsheets" 341 166),
 (173,kC "_law_pool" 422 133 2 181 168 (.ref 170) (.ref 171) 172 428),
 (174,kF "_law_pool" 37 "law_anydelay_k53_whole_unfolded_sheets" 420 173),
 (180,kC "_law_take" 431 140 2 181 175 (.ref 177) (.ref 178) 179 439),
 (181,kF "_law_take" 38 "law_anydelay_k53_whole_unfolded_sheets" 420 180),
 (185,kC "_law_names" 442 151 2 181 182 .none .none 184 445),
 (186,kF "_law_names" 39 "law_anydelay_k53_whole_unfolded_sheets" 420 185),
 (192,kC "_law_order" 448 169 2 181 187 (.ref 189) (.ref 190) 191 455),
 (193,kF "_law_order" 40 "law_anydelay_k53_whole_unfolded_sheets" 420 192),
 (197,kC "_law_arcs" 458 175 3 181 194 .none .none 196 461),
 (198,kF "_law_arcs" 41 "law_anydelay_k53_whole_unfolded_sheets" 420 197),
 (202,kC "_law_ring" 464 189 1 181 199 .none .none 201 467),
 (203,kF "_law_ring" 42 "law_anydelay_k53_whole_unfolded_sheets" 420 202),
 (209,kC "_law_behind" 470 211 3 181 204 (.ref 206) (.ref 207) 208 479),
 (210,kF "_law_behind" 43 "law_anydelay_k53_whole_unfolded_sheets" 420 209),
 (214,kC "_law_odd_right" 482 216 3 181 211 .none .none 213 485),
 (215,kF "_law_odd_right" 44 "law_anydelay_k53_whole_unfolded_sheets" 420 214),
 (219,kC "_law_sheet_right" 488 231 2 181 216 .none .none 218 491),
 (220,kF "_law_sheet_right" 45 "law_anydelay_k53_whole_unfolded_sheets" 420 219),
 (226,kC "law" 494 250 1 181 221 (.ref 223) (.ref 224) 225 502),
 (227,kF "law" 46 "law_anydelay_k53_whole_unfolded_sheets" 420 226)]
noncomputable def hk:Hook:=kmHook KF [3,15,19,20,26,27,33,34,40,41,45,46,50,51,57,58,64,65,71,72,76,77,81,82,86,87,93,94,100,101,105,106,112,113,117,118,119,123,124,128,129,133,134,140,141,145,146,152,153,159,160,166,167,173,174,180,181,185,186,192,193,197,198,202,203,209,210,214,215,219,220,226,227] (λ_=>rfl) [96]
noncomputable def vw:Program:={ PySem.Challenge.pw_anydelay_k53_whole_unfolded_sheets with main:={ PySem.Challenge.pw_anydelay_k53_whole_unfolded_sheets.main with body:=[1,2,3,4,5,6,7,8,9,10,11,12,14,16,17,18,19,20,21,22,23,24,25,27,28,29,30,31,32,33,34,35,37,38,39,40,41,42,43,44,45,46].map top } }
def LW (w:World):Prop:=(openEnds treeTable PySem.Challenge.rw_anydelay_k53_whole_unfolded_sheets.prog w 2506).map (λs=>(openSeen vw [("TURNED" : Str),("SIGNS_AHEAD" : Str)] (importedModules PySem.Challenge.rw_anydelay_k53_whole_unfolded_sheets.prog.main.body) (λs=>xlAt vw [] s&&recOk (RowW.records PySem.Challenge.rw_anydelay_k53_whole_unfolded_sheets.row.toRowW) s) true s,Hook.obs hk s))=some (openGood vw [("TURNED" : Str),("SIGNS_AHEAD" : Str)],Hook.val hk w)
set_option maxHeartbeats 0 in
theorem sd:PySem.Challenge.rw_anydelay_k53_whole_unfolded_sheets.wellSaid=true:=by kernel_rfl
set_option maxHeartbeats 0 in
theorem AK:∀w:World,LW (w.withFollow "special-get-raises" false):=λw=>by unfold LW;kernel_rfl
set_option maxHeartbeats 0 in
theorem AJ:∀w:World,LW (w.withFollow "special-get-raises" true):=λw=>by unfold LW;kernel_rfl
theorem left:LeftO PySem.Challenge.rw_anydelay_k53_whole_unfolded_sheets.prog vw [("TURNED" : Str),("SIGNS_AHEAD" : Str)] (λs=>xlAt vw [] s&&recOk (RowW.records PySem.Challenge.rw_anydelay_k53_whole_unfolded_sheets.row.toRowW) s) (Hook.obs hk) (Hook.val hk) 2506:=λw=>byRow2 (P:=LW) "special-get-raises" AK AJ w
end K2
section
variable {a b c d e f g h i j k l m n x r lo:Nat}
local macro_rules | `(tactic|kd_p) => `(tactic| (intros; first | solve_by_elim (maxDepth := 3) [X7, QN, XY, QJ, Nat.lt_of_not_ge, Nat.lt_of_not_le, Nat.le_of_not_lt, Nat.ge_of_not_lt, QQ, Nat.le_add_left, Nat.sub_le, Nat.lt_succ_self, X3, Nat.add_le_add_left, Nat.add_le_add_right, Nat.add_lt_add_left, Nat.add_lt_add_right, Nat.succ_le_of_lt, Nat.lt_of_succ_le, Nat.le_of_eq, Nat.le_antisymm, Nat.lt_of_le_of_ne, Qg, QR, Nat.sub_lt, Nat.succ_le_succ, Nat.lt_succ_of_le, Nat.le_of_lt_succ, Eq.symm, Eq.trans] | (subst_vars; solve_by_elim (maxDepth := 3) [X7, QN, XY, QJ, Nat.lt_of_not_ge, Nat.lt_of_not_le, Nat.le_of_not_lt, Nat.ge_of_not_lt, QQ, Nat.le_add_left, Nat.sub_le, Nat.lt_succ_self, X3, Nat.add_le_add_left, Nat.add_le_add_right, Nat.add_lt_add_left, Nat.add_lt_add_right, Nat.succ_le_of_lt, Nat.lt_of_succ_le, Nat.le_of_eq, Nat.le_antisymm, Nat.lt_of_le_of_ne, Qg, QR, Nat.sub_lt, Nat.succ_le_succ, Nat.lt_succ_of_le, Nat.le_of_lt_succ, Eq.symm, Eq.trans])))
theorem om0:a<=b->¬a<b->a=b:=by grind
theorem om1:a-b<=a-b:=by simp_all
theorem om2:¬b<a->a<=b:=by kd_p
theorem om3:c=b->b=d->a<c->a<b:=by kd_p
theorem om4:c<=b->c=a->a<=b:=by kd_p
theorem om5:a+1≠a:=by simp_all
theorem om6:b<a->a-(b+1)<a-b:=by omega
theorem om7:c=d->c=a->d=b->a=b:=by kd_p
theorem om8:a+(c+1)<b->a<b:=by grind
theorem om9:b=c->b=d->c=e->a<d->a<b:=by intros;simp_all
theorem Bc:c=b->c=d->b=e->a<d->a<b:=by intros;simp_all
theorem AC:a+(b+1)<c->a+1+b<c:=by omega
theorem uR:b=c->a<c->a<b:=by kd_p
theorem AB:a<c->b=c->a<b:=by kd_p
theorem AA:c=a->d=b->c=d->a=b:=by kd_p
theorem sm:a+64<b->a<b:=by grind
theorem wE:a+64<b->a+1+8<b:=by grind
theorem uQ:c=b->a<c->a<b:=by kd_p
theorem Bb:a<=b->a+1<=b+1:=by kd_p
theorem Az:a<=d+c->d<=b+1->a<=b+(c+1):=by grind
theorem Ay:a<=a+1:=by simp
theorem Ax:b-a=0->a<=b->a=b:=by grind
theorem Aw:b-a=c+1->a<=b->a<b:=by grind
theorem Av:c<=b->a<=d->d<c->a<=b:=by grind
theorem Au:a-b=c+1->b<a->a-(b+1)=c:=by grind
theorem As:a<b->a+1<=b:=by kd_p
theorem Ar:a-b=c+1->b<a->a-b=a-(b+1)+1:=by omega
end
set_option maxHeartbeats 4000000
namespace TK
open PySem
section
variable {prog:Program} {w:World} {K:Type} [DecidableEq K] (knd:KeyKind prog w K)
def It (h:Heap):K ⊕ List K->Value->Prop
 | .inl k,v=>knd.is k v=true
 | .inr ks,v=>∃a,v=.ref a/\IsTupleKey knd h ks a
inductive Its (h:Heap):List (K ⊕ List K)->List Value->Prop
 | nil:Its h [] []
 | cons {k:K ⊕ List K} {v:Value} {ks:List (K ⊕ List K)} {vs:List Value}:It knd h k v->Its h ks vs->Its h (k::ks) (v::vs)
def IsT (h:Heap) (ks:List (K ⊕ List K)) (a:Addr):Prop:=∃o items n,h.get? a=some o/\o.cls=.type "tuple" /\ o.data=.seq items n/\Its knd h ks items.toList
def hsh:K ⊕ List K->Int
 | .inl k=>knd.hash k
 | .inr ks=>tupleKeyHash knd ks
def drw:K ⊕ List K->Nat
 | .inl _=>1
 | .inr ks=>ks.length+1
def pT (ks:List (K ⊕ List K)):Nat:=(ks.map drw).sum
def zC (ks:List (K ⊕ List K)):Int:=reduceHash (Builtin.Tuple.tupleHashOf (ks.map (hsh knd)))
variable {knd}
variable {v u:Value} {h h':Heap}
theorem It.inj {x y:K ⊕ List K} (hx:It knd h x v) (hy:It knd h y v):x=y:=by
 cases x with
 | inl k =>
  cases y with
  | inl j=>rw[knd.inj _ _ _ hx hy]
  | inr js =>
  obtain⟨a,rfl,_⟩:=hy;exact absurd (knd.byValue _ _ hx) (by simp[carriedByValue])
 | inr ks =>
 obtain⟨a,rfl,hx⟩:=hx
 cases y with
 | inl j=>exact absurd (knd.byValue _ _ hy) (by simp[carriedByValue])
 | inr js =>
 obtain⟨b,e,hy⟩:=hy;cases e;rw[hx.inj hy]
variable {x y ks:List (K ⊕ List K)}
theorem Its.inj {vs:List Value} (hx:Its knd h x vs) (hy:Its knd h y vs):x=y:=by
 induction hx generalizing y with
 | nil=>cases hy;rfl
 | cons h1 _ ih =>
 cases hy with
 | cons h2 t2=>rw[h1.inj h2,ih t2]
variable {d a b:Addr}
theorem It.keeps {k:K ⊕ List K} {o:Obj} {es ep} (x:It knd h k v) (ho:h.get? d=some o) (hd:o.data=.dict es ep) (hs:Heap.SameBut d h h'):It knd h' k v:=by
 cases k with
 | inl k=>exact x
 | inr ks=>obtain⟨a,e,x⟩:=x;exact⟨a,e,x.keeps ho hd hs⟩
theorem Its.imp {vs:List Value} (f:∀k v,It knd h k v->It knd h' k v) (x:Its knd h ks vs):Its knd h' ks vs:=by
 induction x with
 | nil=>exact .nil
 | cons h1 _ ih=>exact .cons (f _ _ h1) ih
theorem IsT.typeIs {s:Shared} (x:IsT knd s.heap ks a):s.TypeIs (.ref a) "tuple" := let ⟨o,_,_,ho,hc,_⟩:=x;⟨o,ho,hc⟩
theorem IsT.inj (hx:IsT knd h x a) (hy:IsT knd h y a):x=y:=by
 obtain⟨o,items,n,ho,_,hd,hi⟩:=hx;obtain⟨o',items',n',ho',_,hd',hi'⟩:=hy;obtain rfl:o=o':=QF (ho.symm.trans ho');rw[hd]at hd';injection hd' with h1 _;subst h1;exact hi.inj hi'
theorem IsT.keeps {o:Obj} {es ep} (x:IsT knd h ks a) (ho:h.get? d=some o) (hd:o.data=.dict es ep) (hs:Heap.SameBut d h h'):IsT knd h' ks a:=by
 obtain⟨o',items,n,ho',hc,hd',hi⟩:=x
 have hne:a≠d:=by
  rintro rfl;obtain rfl:o'=o:=QF (ho'.symm.trans ho);rw[hd]at hd';exact nomatch hd'
 exact⟨o',items,n,(hs.2 a hne).trans ho',hc,hd',hi.imp λk v x=>x.keeps ho hd hs⟩
variable {A:Around} {E:B0} {s:Shared}
theorem It.toks {k:K ⊕ List K} {v:Value} {t:Nat} (x:It knd s.heap k v):It knd { s with toks:=t }.heap k v:=x
theorem xi {k:K ⊕ List K} {Q:Int->Shared->Prop} (hu:A.units<cLine) (hk:It knd s.heap k v) (h:Q (hsh knd k) { s with toks:=s.toks+drw k }):wpAny (model prog w) A (pyHash v) Q E s:=by
 cases k with
 | inl k=>exact knd.pyHash hk h
 | inr ks=>obtain⟨a,rfl,hk⟩:=hk;exact wpAny_pyHash_tuple hu hk h
theorem yG {Q:Int->Shared->Prop} (hu:A.units+1<cLine) (hk:IsT knd s.heap ks a) (h:Q (zC knd ks) { s with toks:=s.toks+(pT ks+1) }) :
  wpAny (model prog w) A (pyHash (.ref a)) Q E s:=by
 have hT:=hk.typeIs;obtain⟨o,items,n,ho,_,hd,hi⟩:=hk;unfold pyHash
 first|unfold pyHashByItsType|skip
 first|refine Qa (wpAny_cRoomFor_or (.inr (Nat.lt_of_succ_lt hu)) ?_)|skip
 refine Qa (wpAny_specialOf hT F.slot_tuple_hash.lookup ?_);show wpAny _ _ (if (some (Value.builtin "tuple.__hash__")==some Value.none)=true then _ else _) Q E s;rw[Qo (by rw[beq_builtin_none];exact Qr)];refine Qa (wpAny_specialOf hT F.slot_tuple_hash.lookup ?_);show wpAny _ _ (callSpecialIfBoundUnlessNone? (.ref a) "__hash__" _ >>= _) Q E s;refine Qa (wpAny_callSpecialIfBoundUnlessNone?_slot hT F.slot_tuple_hash (Q4 F.slot_tuple_hash hT F.entry_tuple_hash ?_ (F.args_tuple_hash_1 _)));show wpAny _ _ (Builtin.Tuple.tupleItemsOf (.ref a) >>= _) _ _ s;refine Qa (wpAny_tupleItemsOf ho hd ?_);refine Qa ?_;rw[<-Array.forIn_toList]
 refine wpAny_forIn_list _
  (λrest (b:Array Int) s'=>∃done left,ks=done++left/\Its knd s.heap left rest/\b.toList=done.map (hsh knd)/\s'={ s with toks:=s.toks+pT done })
  _ ?_ ?_ _ _ ⟨[],ks,rfl,hi,rfl,rfl⟩
 ·rintro x rest b s' ⟨done,left,rfl,hl,hb,rfl⟩
  cases hl with
  | @cons k _ ks' _ h1 hl' =>
  have e:pT (done++[k])=pT done+drw k:=by simp[pT]
  refine Qa (xi (s:={ s with toks:=s.toks+pT done }) hu h1 ?_)
  first
   | exact Qf ⟨done++[k],ks',by simp,hl',by simp[hb],by simp[e,Nat.add_assoc]⟩
   | exact Qa (Qf (Qf ⟨done++[k],ks',by simp,hl',by simp[hb],by simp[e,Nat.add_assoc]⟩))
 rintro b s' ⟨done,left,rfl,hl,hb,rfl⟩;cases hl;rw[List.append_nil]at h;show wpAny _ _ (retInt (Builtin.Tuple.tupleHashOf b.toList)) _ _ _;rw[hb];refine wpAny_ret_mkInt ?_;show wpAny _ _ (if (decide (-(2:Int) ^ 63<=Builtin.Tuple.tupleHashOf (done.map (hsh knd)))&&decide (Builtin.Tuple.tupleHashOf (done.map (hsh knd))<2 ^ 63))=true then _ else _) Q E _;unfold zC reduceHash at h;by_cases hr:(decide (-(2:Int) ^ 63<=Builtin.Tuple.tupleHashOf (done.map (hsh knd)))&&decide (Builtin.Tuple.tupleHashOf (done.map (hsh knd))<2 ^ 63))=true
 ·rw[Qs hr];rw[Qs hr]at h;exact Qf (by simpa[Nat.add_assoc] using h)
 rw[Qo hr];rw[Qo hr]at h;exact Qa (wpAny_rule (Qf (by simpa[Nat.add_assoc] using h)))
def Apt (knd:KeyKind prog w K):Prop:=∀{A:Around} {E:B0} {s:Shared} {k:K} {u:Value} {a:Addr} {items:Array Value} {Q:Bool->Shared->Prop},A.units<cLine->knd.is k u=true->s.heap.IsTuple a items->Q false s ->
 wpAny (model prog w) A (eqBool u (.ref a)) Q E s/\wpAny (model prog w) A (eqBool (.ref a) u) Q E s
theorem tK {ks:List K} (x:IsTupleKey knd h ks a):∃items,h.IsTuple a items:=let ⟨o,items,n,h1,h2,h3,_⟩:=x;⟨items,o,h1,h2,n,h3⟩
variable {Q:Bool->Shared->Prop}
theorem it_eq {x y:K ⊕ List K} (ap:Apt knd) (hu:A.units<cLine) (hx:It knd s.heap x u) (hy:It knd s.heap y v) (h:Q (decide (x=y)) s):wpAny (model prog w) A (eqBool u v) Q E s:=by
 cases x with
 | inl k =>
  cases y with
  | inl j=>exact knd.eqBool hx hy (by simpa using h)
  | inr js=>obtain⟨b,rfl,hy⟩:=hy;obtain⟨_,t⟩:=tK hy;exact(ap hu hx t (by simpa using h)).1
 | inr ks =>
 obtain⟨a,rfl,hx⟩:=hx
 cases y with
 | inl j=>obtain⟨_,t⟩:=tK hx;exact(ap hu hy t (by simpa using h)).2
 | inr js=>obtain⟨b,rfl,hy⟩:=hy;exact wpAny_eqBool_tuple hu hx hy (by simpa using h)
theorem rT {P:Fin->Shared->Prop} (ap:Apt knd) (hu:A.units<cLine) (hx:IsT knd s.heap x a) (hy:IsT knd s.heap y b) (h:P (.done (.ret (.bool (decide (x=y))))) s) :
  wpAny (model prog w) A (Builtin.«tuple.__eq__» ⟨[.ref a,.ref b],[]⟩) P E s:=by
 have hTb:=hy.typeIs;obtain⟨oa,xs,na,hoa,_,hda,hia⟩:=hx;obtain⟨ob,ys,nb,hob,_,hdb,hib⟩:=hy;show wpAny _ _ (isInstance (.ref b) (.type "tuple") >>= _) _ _ s;refine Qa (wpAny_isInstance hTb isSubtype_tuple_tuple ?_);simp only[X1,QG,XD];refine Qa (wpAny_tupleItemsOf hoa hda ?_);refine Qa (wpAny_tupleItemsOf hob hdb ?_);refine Qa ?_
 refine wpAny_forIn_list _
  (λrest r s'=>r.1=none/\s'=s/\∃x' y' xs' ys',rest=List.zip xs' ys'/\Its knd s.heap x' xs'/\Its knd s.heap y' ys'/\decide (x'=y')=decide (x=y)/\(xs'.length==ys'.length)=(xs.size==ys.size))
  _ ?_ ?_ _ _ ⟨rfl,rfl,x,y,xs.toList,ys.toList,rfl,hia,hib,rfl,by simp⟩
 ·rintro⟨u,v⟩ rest r s' ⟨hr,rfl,x',y',xs',ys',hz,hx',hy',hdec,hlen⟩
  cases hx' with
  | nil=>simp at hz
  | @cons k1 u' x'' xs'' h1 hx'' =>
  cases hy' with
  | nil=>simp at hz
  | @cons k2 v' y'' ys'' h2 hy'' =>
  simp only[List.zip_cons_cons,List.cons.injEq,Prod.mk.injEq]at hz;obtain⟨⟨rfl,rfl⟩,rfl⟩:=hz;refine Qa (it_eq ap hu h1 h2 ?_);by_cases hk:k1=k2
  ·subst hk;rw[Qv rfl];simp only[X1,QG,XD];refine Qf ⟨rfl,rfl,x'',y'',xs'',ys'',rfl,hx'',hy'',?_,by simpa using hlen⟩;rw[<-hdec];by_cases hxy:x''=y''
   ·simp[hxy]
   simp[hxy]
  rw[Qu hk];simp only[Bool.not_false,if_true];have hf:decide (x=y)=false:=by rw[<-hdec];simp[hk]
  rw[hf]at h;exact Qa (Qf (Qf (Qf h)))
 rintro⟨r1,r2⟩ s' ⟨hr,rfl,x',y',xs',ys',hz,hx',hy',hdec,hlen⟩;simp only at hr;subst hr;refine Qf ?_
 have hfin:(xs.size==ys.size)=decide (x=y):=by
  rw[<-hdec,<-hlen]
  cases hx' with
  | nil =>
   cases hy' with
   | nil=>simp
   | cons _ _=>simp
  | cons _ _ =>
  cases hy' with
  | nil=>simp
  | cons _ _=>simp at hz
 show P (.done (.ret (.bool (xs.size==ys.size)))) s';rw[hfin];exact h
theorem t_eq (ap:Apt knd) (hu:A.units+1<cLine) (hx:IsT knd s.heap x a) (hy:IsT knd s.heap y b) (h:Q (decide (x=y)) s) :
  wpAny (model prog w) A (eqBool (.ref a) (.ref b)) Q E s:=by
 unfold eqBool
 try with_reducible refine QZ ?_
 show wpAny _ _ (if (Value.ref a==Value.ref b)=true then _ else _) Q E s;by_cases hab:(Value.ref a==Value.ref b)=true
 ·rw[Qs hab];have e:a=b:=by have:=eq_of_beq hab;injection this
  subst e;obtain rfl:=hx.inj hy;exact Qa (wpAny_rule (Qf (by simpa using h)))
 rw[Qo hab]
 exact Qa (wpAny_richCompare_same_room (op:=.Eq) hx.typeIs hy.typeIs F.slot_tuple_eq
  (Q4 F.slot_tuple_eq hx.typeIs F.entry_tuple_eq (rT ap hu hx hy ⟨_,rfl,(λe=>nomatch e),XW h⟩) (F.args_tuple_eq_2 _ _)) (Nat.lt_of_succ_lt hu))
theorem rS {ks:List K} {m:Nat} (hk:IsTupleKey knd s.heap ks a) (h:Q true s):wpAny (model prog w) A (eqIsQuiet (m+1) (.ref a)) Q E s:=by
 have hT:=hk.typeIs;obtain⟨o,items,n,ho,_,hd,hi⟩:=hk;unfold eqIsQuiet;refine Qa (wpAny_specialOf hT F.slot_tuple_eq.lookup ?_);show wpAny _ _ (isInstance (.ref a) (.type "tuple") >>= _) _ _ s;refine Qa (wpAny_isInstance hT isSubtype_tuple_tuple ?_);simp only[X1,QG,XD];refine Qa (XQ ho hd ?_);refine Qa ?_;show wpAny _ _ (forIn items _ _) _ _ s;rw[<-Array.forIn_toList];refine wpAny_forIn_list _ (λrest r s'=>r.1=none/\s'=s/\∀v∈rest,carriedByValue v=true) _ ?_ ?_ _ _ ⟨rfl,rfl,hi.byValue⟩
 ·rintro v rest r s' ⟨hr,rfl,hall⟩;rw[eqIsQuiet_byValue _ (hall v Xp)];refine Qa (Qf ?_);simp only[X1,QG,XD];exact Qf ⟨rfl,rfl,λu hu'=>hall u (Qn _ hu')⟩
 rintro⟨r1,r2⟩ s' ⟨hr,rfl,_⟩;simp only at hr;subst hr;exact Qf h
theorem vG {k:K ⊕ List K} {m:Nat} (hk:It knd s.heap k v) (h:Q true s):wpAny (model prog w) A (eqIsQuiet (m+1) v) Q E s:=by
 cases k with
 | inl k=>rw[eqIsQuiet_byValue _ (knd.byValue _ _ hk)];exact Qf h
 | inr ks=>obtain⟨a,rfl,hk⟩:=hk;exact rS hk h
theorem t_quiet (hk:IsT knd s.heap ks a) (h:Q true s):wpAny (model prog w) A (eqIsQuiet 8 (.ref a)) Q E s:=by
 have hT:=hk.typeIs;obtain⟨o,items,n,ho,_,hd,hi⟩:=hk;unfold eqIsQuiet;refine Qa (wpAny_specialOf hT F.slot_tuple_eq.lookup ?_);show wpAny _ _ (isInstance (.ref a) (.type "tuple") >>= _) _ _ s;refine Qa (wpAny_isInstance hT isSubtype_tuple_tuple ?_);simp only[X1,QG,XD];refine Qa (XQ ho hd ?_);refine Qa ?_;show wpAny _ _ (forIn items _ _) _ _ s;rw[<-Array.forIn_toList];refine wpAny_forIn_list _ (λrest r s'=>r.1=none/\s'=s/\∃ks,Its knd s.heap ks rest) _ ?_ ?_ _ _ ⟨rfl,rfl,_,hi⟩
 ·rintro v rest r s' ⟨hr,rfl,ks',hall⟩
  cases hall with
  | cons h1 h2 =>
  refine Qa (vG h1 ?_);simp only[X1,QG,XD];exact Qf ⟨rfl,rfl,_,h2⟩
 rintro⟨r1,r2⟩ s' ⟨hr,rfl,_⟩;simp only at hr;subst hr;exact Qf h
noncomputable def kind (knd:KeyKind prog w K) (ap:Apt knd):HeapKind prog w (List (K ⊕ List K)) where
 is:=IsT knd
 hash:=zC knd
 draws:=λks=>pT ks+1
 room:=λA=>A.units+1<cLine
 inj:=λhx hy=>hx.inj hy
 keeps:=λx ho hd hs=>x.keeps ho hd hs
 pyHash:=λhu hk h=>yG hu hk h
 eqBool:=λhu hx hy h=>t_eq ap hu hx hy h
 quiet:=λhk h=>t_quiet hk h
end
end TK
-- CHANGE: your row's module here,as the last of these rows
namespace L2
open PySem PySem.Spec PyProof.Rows
abbrev Key:=Sum Int Str
def dN:Key->Value->Bool
 | .inl k,v=>Value.isInt k v
 | .inr x,v=>Value.isStrOf x v
def Bd (w:World):Key->Int
 | .inl k=>hashInt k
 | .inr x=>hashStr w x
theorem aN:∀{k:Key} {v:Value},dN k v=true->(∃i t,k=Sum.inl i/\v=Value.int i t)\/(∃x t,k=Sum.inr x/\v=Value.str x t)
 | .inl i,v,h=>by
  obtain⟨t,e⟩:=Value.isInt_shape (k:=i) (v:=v) h;exact .inl ⟨i,t,rfl,e⟩
 | .inr x,v,h=>by
  obtain⟨t,e⟩:=Value.isStrOf_shape (x:=x) (v:=v) h;exact .inr ⟨x,t,rfl,e⟩
theorem sQ (i:Int) (t:Tok):dN (.inl i) (.int i t)=true:=by simp[dN,Value.isInt]
theorem sP (x:Str) (t:Tok):dN (.inr x) (.str x t)=true:=by simp[dN,Value.isStrOf]
theorem vz (a b:Int):decide ((Sum.inl a:Key)=Sum.inl b)=(a==b):=by
 by_cases e:a=b
 ·subst e;simp
 have h:¬(Sum.inl a:Key)=Sum.inl b:=λq=>e (Sum.inl.inj q);rw[Qu h];exact(beq_eq_false_iff_ne.mpr e).symm
theorem vv (a b:Str):decide ((Sum.inr a:Key)=Sum.inr b)=decide (a=b):=by
 by_cases e:a=b
 ·subst e;simp
 have h:¬(Sum.inr a:Key)=Sum.inr b:=λq=>e (Sum.inr.inj q);rw[Qu h,Qu e]
theorem zp (a:Int) (b:Str):decide ((Sum.inl a:Key)=Sum.inr b)=false:=Qu (λq=>nomatch q)
theorem zo (a:Str) (b:Int):decide ((Sum.inr a:Key)=Sum.inl b)=false:=Qu (λq=>nomatch q)
noncomputable def ax (prog:Program) (w:World):PySem.KeyKind prog w Key where
 is:=dN
 hash:=Bd w
 inj:=λv a b ha hb=>by
  rcases aN ha with⟨i,t,rfl,rfl⟩|⟨x,t,rfl,rfl⟩
  ·rcases aN hb with⟨j,u,rfl,e⟩|⟨y,u,rfl,e⟩
   ·injection e with e1 _;rw[e1]
   exact nomatch e
  rcases aN hb with⟨j,u,rfl,e⟩|⟨y,u,rfl,e⟩
  ·exact nomatch e
  injection e with e1 _;rw[e1]
 byValue:=λk v h=>by
  rcases aN h with⟨i,t,rfl,rfl⟩|⟨x,t,rfl,rfl⟩ <;> rfl
 pyHash:=λhv h=>by
  rcases aN hv with⟨i,t,rfl,rfl⟩|⟨x,t,rfl,rfl⟩
  ·exact wpAny_pyHash_int h
  exact wpAny_pyHash_str h
 eqBool:=λhu hv h=>by
  rcases aN hu with⟨i,t,rfl,rfl⟩|⟨x,t,rfl,rfl⟩
  ·rcases aN hv with⟨j,u,rfl,rfl⟩|⟨y,u,rfl,rfl⟩
   ·rw[vz]at h;exact wpAny_eqBool_int h
   rw[zp]at h;exact SeqAt.EqAt.int_str i t y u _ _ _ _ h
  rcases aN hv with⟨j,u,rfl,rfl⟩|⟨y,u,rfl,rfl⟩
  ·rw[zo]at h;exact SeqAt.EqAt.str_int x t j u _ _ _ _ h
  rw[vv]at h;exact wpAny_eqBool_str h
 «strs»:=λk x t v h=>by
  rcases aN h with⟨i,u,rfl,e⟩|⟨y,u,rfl,e⟩
  ·exact nomatch e
  injection e with e1 _;subst e1;cases v <;> rfl
theorem m8 (prog:Program) (w:World) (i:Int) (t:Tok):(ax prog w).is (.inl i) (.int i t)=true:=sQ i t
theorem gY (prog:Program) (w:World) (x:Str) (t:Tok):(ax prog w).is (.inr x) (.str x t)=true:=sP x t
theorem k_ (prog:Program) (w:World):TK.Apt (ax prog w):=λhu hk t h=>by
 rcases aN hk with⟨i,u,rfl,rfl⟩|⟨x,u,rfl,rfl⟩
 ·exact⟨SeqAt.EqAt.int_tuple _ _ t hu _ _ _ _ h,SeqAt.EqAt.tuple_int _ _ t hu _ _ _ _ h⟩
 exact⟨SeqAt.EqAt.str_tuple _ _ t hu _ _ _ _ h,SeqAt.EqAt.tuple_str _ _ t hu _ _ _ _ h⟩
abbrev aB:=List (Key ⊕ List Key)
abbrev bq (P:Program) (w:World):HeapKind P w aB:=TK.kind (ax P w) (k_ P w)
variable {A:Around}
theorem fZ {P:Program} {w:World} (hu:A.units+8<cLine):(bq P w).room A.in1:=show A.units+1+1<cLine by omega
inductive V where
 | non|bl (b:Bool)|int (i:Int)|str (x:Str)|byt (b:Array UInt8)|flt (b:UInt64)|ref (a:Addr)|ty (n:String)
 deriving DecidableEq
noncomputable def aL:V->Value->Prop
 | .non,u=>u=Value.none
 | .bl b,u=>u=Value.bool b
 | .int i,u=>∃t,u=Value.int i t
 | .str x,u=>∃t,u=Value.str x t
 | .byt b,u=>∃t,u=Value.bytes b t
 | .flt b,u=>∃t,u=Value.float b t
 | .ref a,u=>u=Value.ref a
 | .ty n,u=>u=Value.type n
abbrev aQ:List V->List Value->Prop:=Paired aL
theorem aQ.length {xs:List V} {us:List Value} (r:aQ xs us):xs.length=us.length:=Xr r
theorem aQ.get:∀{xs:List V} {us:List Value} {i:Nat} {x:V},aQ xs us->xs[i]?=some x->∃u,us[i]?=some u/\aL x u
 | _,_,_,_,.nil,e=>by simp at e
 | _,_,0,_,.cons r _,e=>by simp at e;subst e;exact⟨_,rfl,r⟩
 | _,_,i+1,x,.cons _ t,e=>by
  obtain⟨u,h1,h2⟩:=aQ.get (i:=i) (x:=x) t (by simpa using e);exact⟨u,by simpa using h1,h2⟩
variable {u cd dV doc pm cdv ct oc:Value}
theorem aQ.set {x:V} (r:aL x u):∀{xs:List V} {us:List Value} (i:Nat),aQ xs us->aQ (xs.set i x) (us.set i u)
 | _,_,_,.nil=>.nil
 | _,_,0,.cons _ t=>.cons r t
 | _,_,i+1,.cons q t=>.cons q (aQ.set r i t)
theorem aQ.append:∀{xs ys:List V} {us ws:List Value},aQ xs us->aQ ys ws->aQ (xs++ys) (us++ws)
 | _,_,_,_,.nil,s=>s
 | _,_,_,_,.cons r t,s=>.cons r (aQ.append t s)
theorem aQ.take:∀{xs:List V} {us:List Value} (n:Nat),aQ xs us->aQ (xs.take n) (us.take n)
 | _,_,0,_=>.nil
 | _,_,_+1,.nil=>.nil
 | _,_,n+1,.cons r t=>.cons r (aQ.take n t)
theorem aQ.drop:∀{xs:List V} {us:List Value} (n:Nat),aQ xs us->aQ (xs.drop n) (us.drop n)
 | _,_,0,r=>r
 | _,_,_+1,.nil=>.nil
 | _,_,n+1,.cons _ t=>aQ.drop n t
theorem aQ.none_of:∀{xs:List V} {us:List Value} {i:Nat},aQ xs us->xs[i]?=none->us[i]?=none:=λ{xs us i} r e=>by
 have h1:=r.length;have h2:xs.length<=i:=List.getElem?_eq_none_iff.mp e;exact List.getElem?_eq_none_iff.mpr (by omega)
def fY:Option V->Option Value->Prop
 | some v,some u=>aL v u
 | none,none=>True
 | _,_=>False
def KV {κ:Type}:List (κ × V)->List (κ × Value)->Prop:=Paired λ(p:κ × V) (q:κ × Value)=>p.1=q.1/\aL p.2 q.2
def kV:Key->V
 | .inl i=>.int i
 | .inr x=>.str x
inductive HO where
 /-- a list -/
 | lst (xs:List V)
 /-- a tuple (never changes) -/
 | tup (xs:List V)
 /-- a dict whose keys are ints and texts;one whose keys are tuples of ints and texts (the empty one is both) -/
 | dK (kvs:List (Key × V))|dT (kvs:List (aB × V))
 /-- a set of ints: its members,its size -/
 | set (S:Int->Bool) (n:Nat)
 /-- an instance of the class at C,its dict at dx,its attributes -/
 | ins (C dx:Addr) (fs:List (Str × V))
 /-- the dict of the instance at x -/
 | own (x:Addr)
 /-- the dict of an exception -/
 | xd (fs:List (Str × V))
 /-- a bound method,f of x -/
 | met (f x:Addr)
 /-- a range object lo,lo+1,.. below hi -/
 | rng (lo hi:Int)
 /-- a thing that is known to the object (the script;a dict while a loop xO it): read,never written while it is so -/
 | frz (o:Obj) (u:HO)
 /-- a code object's table -/
 | tbl (ps:Array Value)
 /-- any other thing,by what is true of its one object (a def of one's own: SetO a S n:=HO.ext λh=>..) -/
 | ext (φ:Heap->Prop)
abbrev Hp:=Addr->Option HO
def upd (H:Hp) (a:Addr) (o:HO):Hp:=λb=>if b=a then some o else H b
variable {o:HO} {a b it dx C f:Addr} {H H':Hp}
theorem af:upd H a o a=some o:=by unfold upd;rw[Qs rfl]
theorem ah (h:b≠a):upd H a o b=H b:=by unfold upd;rw[Qo h]
theorem qk {u:HO}:upd (upd H a o) a u=upd H a u:=by
 funext b;unfold upd;split <;> rfl
theorem yi {u:HO} (h:H a=some o) (h':H b=some u) (d:o≠u):a≠b:=by
 intro e;subst e;rw[h]at h';exact d (QF h')
theorem ao (h:H a=some o) (h':H b=none):a≠b:=by
 intro e;subst e;rw[h]at h';cases h'
def KIt (H:Hp):Key ⊕ List Key->V->Prop
 | .inl k,v=>v=kV k
 | .inr ks,v=>∃c,v=.ref c/\H c=some (.tup (ks.map kV))
def bS (H:Hp) (k:aB) (b:Addr):Prop:=∃vs,H b=some (.tup vs)/\Paired (KIt H) k vs
theorem KIt.keeps {k:Key ⊕ List Key} {v:V} (ht:∀b xs,H b=some (.tup xs)->H' b=some (.tup xs)) (h:KIt H k v):KIt H' k v:=by
 cases k with
 | inl k=>exact h
 | inr ks=>obtain⟨c,e,h⟩:=h;exact⟨c,e,ht _ _ h⟩
theorem Paired.mapT {α β:Type} {F G:α->β->Prop}:∀{l₁:List α} {l₂:List β},Paired F l₁ l₂->(∀a b,F a b->G a b)->Paired G l₁ l₂
 | _,_,.nil,_=>.nil
 | _,_,.cons r t,f=>.cons (f _ _ r) (Paired.mapT t f)
theorem bS.keeps {k:aB} (h:bS H k b) (ht:∀b xs,H b=some (.tup xs)->H' b=some (.tup xs)):bS H' k b:=by
 obtain⟨vs,h1,h2⟩:=h;exact⟨vs,ht _ _ h1,Paired.mapT h2 λ_ _ z=>z.keeps ht⟩
section
variable (P:Program) (w:World)
noncomputable def be (H:Hp) (h:Heap) (a:Addr):HO->Prop
 | .lst xs=>xs.length<=sizeLine/\∃(its:List Value) (n:Nat),aQ xs its/\h.get? a=some { cls:=.type "list", data:=.seq its.toArray n }
 | .tup xs=>xs.length<=sizeLine/\∃its:List Value,aQ xs its/\IsTup h a its.toArray
 | .dK kvs=>kvs.length<=sizeLine/\(a==sysModules)=false/\∃vs,KV kvs vs/\h.DictOf (ax P w) a vs
 | .dT kvs=>kvs.length<=sizeLine/\(a==sysModules)=false/\∃xs:List (aB × Addr × Value),
   Paired (λ(p:aB × V) (q:aB × Addr × Value)=>p.1=q.1/\bS H p.1 q.2.1/\aL p.2 q.2.2) kvs xs /\
   ∃o es ep,h.get? a=some o/\o.ExactDict/\o.data=.dict es ep/\es.toList=xs.map (entryOfKey (bq P w))/\(xs.map (·.1)).Nodup
 | .set S n=>h.SetOf (intKind P w) a S n
 | .ins C dx fs=>H dx=some (.own a)/\fs.length<=1000/\dx≠a/\h.get? a=some (PySem.W.instObj C dx) /\
   ∃mA,h.Ns1 dx mA/\(∀f,fY (fs.lookup f) (mA f))/\PySem.Within mA (fs.map (·.1))
 | .own _=>∃o,h.get? a=some o
 | .xd fs=>∃mA,h.Ns1 a mA/\∀f,fY (fs.lookup f) (mA f)
 | .rng lo hi=>∃t u v,h.get? a=some { cls:=.type "range", data:=.fields #[.int lo t,.int hi u,.int 1 v] }
 | .frz o u=>h.get? a=some o/\be H h a u
 | .tbl ps=>h.get? a=some { cls:=.none,data:=.fields ps }
 | .met f x=>h.get? a=some (PySem.W.methodObj (.ref f) (.ref x))
 | .ext φ=>φ h/\(∃o,h.get? a=some o)/\∀h1 h2:Heap,φ h1->(∀o,h1.get? a=some o->h2.get? a=some o)->φ h2
def HOk (H:Hp) (h:Heap):Prop:=∀a o,H a=some o->be P w H h a o
end
section
variable {P:Program} {w:World} {H H':Hp} {h h':Heap} {a:Addr} {o:HO}
theorem be.lt (x:be P w H h a o):a<h.objs.size:=by
 cases o with
 | lst xs=>obtain⟨_,_,_,_,e⟩:=x;exact Qq e
 | tup xs=>obtain⟨_,_,_,p⟩:=x;exact p.lt
 | dK kvs=>obtain⟨_,_,_,_,o,_,_,e,_⟩:=x;exact Qq e
 | dT kvs=>obtain⟨_,_,_,_,o,_,_,e,_⟩:=x;exact Qq e
 | set S n=>obtain⟨o,_,_,_,e,_⟩:=x;exact Qq e
 | ins C dx fs=>obtain⟨_,_,_,e,_⟩:=x;exact Qq e
 | own y=>obtain⟨_,e⟩:=x;exact Qq e
 | xd fs=>obtain⟨_,⟨_,_,_,e,_⟩,_⟩:=x;exact Qq e
 | rng lo hi=>obtain⟨_,_,_,e⟩:=x;exact Qq e
 | frz ob u=>obtain⟨e,_⟩:=x;exact Qq e
 | tbl ps=>exact Qq (show h.get? a=some _ from x)
 | met f y=>exact Qq (show h.get? a=some _ from x)
 | ext φ=>obtain⟨_,⟨_,e⟩,_⟩:=x;exact Qq e
theorem Paired.mapP {α β:Type} {F G:α->β->Prop}:∀{l₁:List α} {l₂:List β},Paired F l₁ l₂->(∀a b,F a b->G a b)->Paired G l₁ l₂
 | _,_,.nil,_=>.nil
 | _,_,.cons r t,f=>.cons (f _ _ r) (Paired.mapP t f)
theorem be.stay (x:be P w H h a o) (k:∀b u,(b=a\/H b=some (.own a))->h.get? b=some u->h'.get? b=some u)
  (ho:∀b,H b=some (.own a)->H' b=some (.own a)) (ht:∀b xs,H b=some (.tup xs)->H' b=some (.tup xs)):be P w H' h' a o:=by
 induction o with
 | lst xs=>obtain⟨z,its,n,r,e⟩:=x;exact⟨z,its,n,r,k _ _ (.inl rfl) e⟩
 | tup xs=>obtain⟨z,its,r,ob,e,c⟩:=x;exact⟨z,its,r,ob,k _ _ (.inl rfl) e,c⟩
 | dK kvs=>obtain⟨z,y,vs,r,ob,es,ep,e,c⟩:=x;exact⟨z,y,vs,r,ob,es,ep,k _ _ (.inl rfl) e,c⟩
 | dT kvs =>
  obtain⟨z,y,xs,r,ob,es,ep,e,c⟩:=x;exact⟨z,y,xs,Paired.mapP r λp q z=>⟨z.1,z.2.1.keeps ht,z.2.2⟩,ob,es,ep,k _ _ (.inl rfl) e,c⟩
 | set S n=>obtain⟨ob,es,ep,t,e,c⟩:=x;exact⟨ob,es,ep,t,k _ _ (.inl rfl) e,c⟩
 | ins C dx fs =>
  obtain⟨d,z,ne,e,mA,⟨od,es,ep,e2,c⟩,r⟩:=x;exact⟨ho _ d,z,ne,k _ _ (.inl rfl) e,mA,⟨od,es,ep,k _ _ (.inr d) e2,c⟩,r⟩
 | own y=>obtain⟨ob,e⟩:=x;exact⟨ob,k _ _ (.inl rfl) e⟩
 | xd fs=>obtain⟨mA,⟨od,es,ep,e,c⟩,r⟩:=x;exact⟨mA,⟨od,es,ep,k _ _ (.inl rfl) e,c⟩,r⟩
 | rng lo hi=>obtain⟨t,u,v,e⟩:=x;exact⟨t,u,v,k _ _ (.inl rfl) e⟩
 | frz ob u ih=>obtain⟨e,q⟩:=x;exact⟨k _ _ (.inl rfl) e,ih q⟩
 | tbl ps =>
  have e:h.get? a=some { cls:=.none,data:=.fields ps }:=x;show h'.get? a=some { cls:=.none,data:=.fields ps };exact k a _ (.inl rfl) e
 | met f y =>
  have e:h.get? a=some (PySem.W.methodObj (.ref f) (.ref y)):=x;show h'.get? a=some (PySem.W.methodObj (.ref f) (.ref y));exact k a _ (.inl rfl) e
 | ext φ=>obtain⟨p,⟨o,e⟩,st⟩:=x;exact⟨st _ _ p λo q=>k _ _ (.inl rfl) q,⟨o,k _ _ (.inl rfl) e⟩,st⟩
theorem HOk.lt (x:HOk P w H h) (e:H a=some o):a<h.objs.size:=(x a o e).lt
theorem HOk.fresh (x:HOk P w H h) (e:h.objs.size<=a):H a=none:=by
 cases q:H a with
 | none=>rfl
 | some u=>exact absurd (QN (x.lt q) e) (Zb _)
theorem HOk.kept (x:HOk P w H h) (k:∀b u,h.get? b=some u->h'.get? b=some u):HOk P w H h':=λa o e =>
 (x a o e).stay (λb u _ q=>k b u q) (λ_ q=>q) λ_ _ q=>q
theorem HOk.laid (x:HOk P w H h) (k:∀b u,h.get? b=some u->h'.get? b=some u) (hp:h.objs.size<=a) (new:be P w (upd H a o) h' a o):HOk P w (upd H a o) h':=λb u e=>by
 have hn:=x.fresh hp;by_cases hb:b=a
 ·subst hb;rw[af]at e;cases e;exact new
 rw[ah hb]at e;exact(x b u e).stay (λc v _ q=>k c v q) (λc q=>by rw[ah (ao q hn)];exact q) λc xs q=>by rw[ah (ao q hn)];exact q
end
def Rd (H:Hp) (a:Addr) (u:HO):Prop:=H a=some u\/∃o,H a=some (.frz o u)
variable {h:Heap}
theorem Rd.ok {P:Program} {w:World} {u:HO} (r:Rd H a u) (x:HOk P w H h):be P w H h a u:=by
 rcases r with r|⟨o,r⟩
 ·exact x a u r
 obtain⟨_,q⟩:=x a _ r;exact q
def Mut:Option HO->Prop
 | some (.lst _)=>True
 | some (.dK _)=>True
 | some (.dT _)=>True
 | some (.set _ _)=>True
 | some (.ins _ _ _)=>True
 | some (.ext _)=>True
 | _=>False
section
variable {P:Program} {w:World} {H:Hp} {h h':Heap} {x e:Addr} {o':HO}
theorem HOk.write (ok:HOk P w H h) (mu:Mut (H x)) (he:e=x\/H e=some (.own x)) (k:∀b u,b≠e->h.get? b=some u->h'.get? b=some u) (heo:∃u,h'.get? e=some u)
  (new:be P w (upd H x o') h' x o'):HOk P w (upd H x o') h':=λb u q=>by
 have nown:∀c y,H c=some (.own y)->c≠x:=λc y r z=>by subst z;rw[r]at mu;exact mu
 have ntup:∀c xs,H c=some (.tup xs)->c≠x:=λc xs r z=>by subst z;rw[r]at mu;exact mu
 by_cases hb:b=x
 ·subst hb;rw[af]at q;cases q;exact new
 rw[ah hb]at q;by_cases hbe:b=e
 ·have q':H b=some (.own x):=by
   rcases he with z|z
   ·exact absurd (hbe.trans z) hb
   rw[hbe];exact z
  rw[q]at q';cases q';obtain⟨v,hv⟩:=heo;exact⟨v,by rw[hbe];exact hv⟩
 refine(ok b u q).stay (λc v hc r=>k c v ?_ r) (λc r=>by rw[ah (nown c b r)];exact r) λc xs r=>by rw[ah (ntup c xs r)];exact r
 rcases hc with rfl|hc
 ·exact hbe
 rintro rfl;rcases he with z|z
 ·exact nown c b hc z
 rw[hc]at z;cases z;exact hb rfl
end
structure Un (fs ex:B3) (H H':Hp) (h h':Heap):Prop where
 keep:∀b o,h.get? b=some o->H b=none->b∉fs->b∉ex->h'.get? b=some o
 slot:∀b o,h.get? b=some o->H b=none->b∈fs->b∉ex->∃sl,h'.get? b=some { o with slots:=sl }
 free:∀b o,h.get? b=some o->H b=none->b∉ex->H' b=none
 there:∀b o,h.get? b=some o->b∉ex->∃o',h'.get? b=some o'
 tups:∀b xs,H b=some (.tup xs)->H' b=some (.tup xs)
 frzs:∀b o u,H b=some (.frz o u)->H' b=some (.frz o u)
 tbls:∀b ps,H b=some (.tbl ps)->∃more,H' b=some (.tbl (ps++more))
section
variable {fs fs' ex ex':B3} {H H1 H2:Hp} {h h1 h2 h':Heap} {a x e:Addr} {o:HO}
theorem Un.any (u:Un fs ex H H1 h h1) {b:Addr} {ob:Obj} (q:h.get? b=some ob) (n:H b=none) (hx:b∉ex):∃sl,h1.get? b=some { ob with slots:=sl }:=by
 by_cases hb:b∈fs
 ·exact u.slot b ob q n hb hx
 exact⟨ob.slots,u.keep b ob q n hb hx⟩
theorem Un.kept (k:∀b u,h.get? b=some u->h'.get? b=some u):Un fs ex H H h h' :=
 ⟨λb ob q _ _ _=>k b ob q,λb ob q _ _ _=>⟨ob.slots,k b ob q⟩,λ_ _ _ n _=>n,λb ob q _=>⟨ob,k b ob q⟩,λ_ _ q=>q,λ_ _ _ q=>q,λ_ ps q=>⟨#[],by rw[q];simp⟩⟩
theorem Un.refl:Un fs ex H H h h:=Un.kept λ_ _ q=>q
theorem Un.laid (k:∀b u,h.get? b=some u->h'.get? b=some u) (hp:h.objs.size<=a) (hn:H a=none):Un fs ex H (upd H a o) h h' where
 keep:=λb u q _ _ _=>k b u q
 slot:=λb u q _ _ _=>⟨u.slots,k b u q⟩
 free:=λb u q n _=>by rw[ah (QB (QN (Qq q) hp))];exact n
 there:=λb u q _=>⟨u,k b u q⟩
 tups:=λb xs q=>by rw[ah (ao q hn)];exact q
 frzs:=λb u xs q=>by rw[ah (ao q hn)];exact q
 tbls:=λb ps q=>⟨#[],by rw[ah (ao q hn),q];simp⟩
theorem Un.write (mu:Mut (H x)) (he:e=x\/H e=some (.own x)) (k:∀b u,b≠e->h.get? b=some u->h'.get? b=some u) (heo:∃u,h'.get? e=some u):Un fs ex H (upd H x o) h h':=by
 have hx:∀b,H b=none->b≠x:=λb n z=>by subst z;rw[n]at mu;exact mu
 have hb:∀b,H b=none->b≠e:=λb n z=>by
  subst z;rcases he with r|r
  ·exact hx b n r
  rw[n]at r;cases r
 have hm:∀b u,H b=some u->¬Mut (some u)->b≠x:=λb u q nm z=>by subst z;rw[q]at mu;exact nm mu
 refine⟨λb u q n _ _=>k b u (hb b n) q,λb u q n _ _=>⟨u.slots,k b u (hb b n) q⟩,λb u q n _=>by rw[ah (hx b n)];exact n,λb u q _=>?_,
  λb xs q=>by rw[ah (hm b _ q λz=>z)];exact q,λb u xs q=>by rw[ah (hm b _ q λz=>z)];exact q,λb ps q=>⟨#[],by rw[ah (hm b _ q λz=>z),q];simp⟩⟩
 by_cases hbe:b=e
 ·subst hbe;exact heo
 exact⟨u,k b u hbe q⟩
end
def trk (h:Heap) (H:Hp):B3:=(List.range h.objs.size).filter λa=>(H a).isSome
def jx (h:Heap) (H:Hp):Heap:=PySem.W.hideAll h (trk h H)
theorem sU (h:Heap) (H:Hp):(jx h H).objs.size=h.objs.size:=PySem.W.hideAll_size _ _
theorem vN {o:Obj} (e:h.get? b=some o) (n:H b=none):(jx h H).get? b=some o :=
 PySem.W.hideAll_get _ e λhm=>by
  have q:(H b).isSome=true:=(QW.mp hm).2;rw[n]at q;simp at q
theorem wS {o:Obj} (e:(jx h H).get? b=some o):h.get? b=some o/\H b=none:=by
 have e':h.get? b=some o:=PySem.W.of_hideAll (trk h H) e;refine⟨e',?_⟩
 cases q:H b with
 | none=>rfl
 | some x =>
 have hm:b∈trk h H:=QW.mpr ⟨Xx.mpr (Qq e'),by simp[q]⟩;have z:(jx h H).get? b=none:=PySem.W.hideAll_none (trk h H) hm;rw[z]at e;cases e
structure Mod (K:PySem.W.Frag) (mg:B2) (base:Heap):Prop where
 kin:K.In base
 glob:base.Ns mainGlobals mg
 blt:∃mb,base.Ns builtinsNs mb/\∀x:Str,x ≠ "__name__" -> mb x=bootBuiltins x
 nolimit:base.NoLimit
/-- the context: a def's body (or a comprehension's block) running. base: fixed through the whole law;s₀,H₀: the d7;outer: the frames whose slots others may change (a def's callers);stack: all frames that run;
  ex: iterators that were made ahead of the d7 and are walked here (a comprehension's);fn: the names whose cells were made at the d7 (a def: all;a comprehension's block: its own);calm: not within an except suite;pn: pins that every state bears;xe: what is wanted of an exception that leaves the code -/
structure Cx where
 prog:Program
 w:World
 K:PySem.W.Frag
 mg:B2
 base:Heap
 A:Around
 N:List Str
 s₀:Shared
 H₀:Hp
 env:Env
 outer:List Env
 stack:List Env
 ex:B3
 fn:Str->Bool
 calm:Bool
 pn:B1
 xe:B0
def frs (l:List Env):B3:=l.filterMap (·.frame)
abbrev Cx.fs (X:Cx):B3:=frs X.outer
def Vis (sc:Scope) (x:Str):Prop:=sc.names.lookup x=some .local\/sc.names.lookup x=some .cell\/sc.names.lookup x=some .free
def Loc (sc:Scope) (x:Str):Prop:=sc.names.lookup x=some .local\/sc.names.lookup x=some .cell
def Bl (env:Env) (h:Heap) (m:B2) (x:Str) (u:Value):Prop :=
 (env.kindOf x=some .local/\m x=some u)\/((env.kindOf x=some .cell\/env.kindOf x=some .free)/\∃c,env.cells.lookup x=some c/\h.IsCell c (some u))
structure Cx.Ok (X:Cx):Prop where
 mod:Mod X.K X.mg X.base
 kind:X.env.scope.kind=.function
 glob:X.env.globals=mainGlobals
 blt:X.env.builtins=builtinsNs
 above:X.s₀.heap.objs.size<=X.env.locals
 inj:∀x y c,X.env.cells.lookup x=some c->X.env.cells.lookup y=some c->x=y
 has:∀x,(X.env.kindOf x=some .cell\/X.env.kindOf x=some .free)->∃c,X.env.cells.lookup x=some c
 cab:∀x c,X.fn x=true->X.env.cells.lookup x=some c->X.s₀.heap.objs.size<=c
 hd:X.calm=true->X.A.handled=none
 frames:X.A.frames=some X.stack
 stk:X.stack=X.outer\/(X.stack=X.env::X.outer/\X.env.frame=some X.env.locals)
 exf:∀b∈X.ex,b≠X.env.locals/\∀x c,X.env.cells.lookup x=some c->c≠b
 bs:∀b o,X.base.get? b=some o->X.s₀.heap.get? b=some o/\X.H₀ b=none
 bsz:X.base.objs.size<=X.s₀.heap.objs.size
 noex:∀b o,X.base.get? b=some o->b∉X.ex
 exfs:∀b∈X.ex,b∉X.fs
 funs:X.s₀.heap.FunFrames X.base X.outer
 frf:∀b∈X.fs,X.H₀ b=none
structure Inv (X:Cx) (pins:B1) (U:List (Option V)) (H:Hp) (s:Shared):Prop where
 ok:X.Ok
 os:s.os=X.s₀.os
 bare:AllBare s.gens
 base:Un X.fs X.ex X.H₀ H X.s₀.heap s.heap
 loc:∃m,s.heap.Ns X.env.locals m/\∀(i:Nat) (x:Str) (v:V),X.N[i]?=some x->U[i]?=some (some v)->Vis X.env.scope x->∃u,aL v u/\Bl X.env s.heap m x u
 cell:∀x c,X.env.cells.lookup x=some c->∃v,s.heap.IsCell c v
 free:H X.env.locals=none
 freeC:∀x c,X.env.cells.lookup x=some c->H c=none
 pin:∀p∈X.pn++pins,s.heap.get? p.1=some p.2/\H p.1=none/\p.1≠X.env.locals/\p.1∉X.fs/\∀v,p.2.data≠.cell v
 hok:HOk X.prog X.w H s.heap
 len:U.length=X.N.length
section
variable {X:Cx} {pins:B1} {U:List (Option V)} {H H':Hp} {s:Shared} {h':Heap}
theorem Cx.Ok.nofr (ok:X.Ok) {b:Addr} {o:Obj} (e:X.base.get? b=some o):b∉X.fs:=λhb=>by
 have:=(ok.funs.mem hb).1;rw[e]at this;cases this
theorem Inv.bs (I:Inv X pins U H s):∀b o,X.base.get? b=some o->s.heap.get? b=some o/\H b=none:=λb o e =>
 ⟨I.base.keep b o (I.ok.bs b o e).1 (I.ok.bs b o e).2 (I.ok.nofr e) (I.ok.noex b o e),I.base.free b o (I.ok.bs b o e).1 (I.ok.bs b o e).2 (I.ok.noex b o e)⟩
theorem Inv.bk (I:Inv X pins U H s):∀b o,X.base.get? b=some o->s.heap.get? b=some o:=λb o e=>(I.bs b o e).1
theorem Inv.mod (I:Inv X pins U H s):Mod X.K X.mg X.base:=I.ok.mod
theorem Inv.kIn (I:Inv X pins U H s):X.K.In s.heap:=I.ok.mod.kin.keeps I.bk
theorem Inv.lt (I:Inv X pins U H s):X.env.locals<s.heap.objs.size:=let ⟨_,hn,_⟩:=I.loc;hn.lt
theorem Inv.sz (I:Inv X pins U H s):X.s₀.heap.objs.size<=s.heap.objs.size:=QJ I.ok.above (X7 I.lt)
theorem Inv.nofs (I:Inv X pins U H s) {a:Addr} (h:s.heap.objs.size<=a):a∉X.fs:=λhb=>by
 obtain⟨_,o,ho,_⟩:=I.ok.funs.mem hb;exact absurd (QN (Qq ho) (QJ I.sz h)) (Zb _)
theorem Inv.cne (I:Inv X pins U H s):∀x c,X.env.cells.lookup x=some c->c≠X.env.locals:=λx c e z=>by
 obtain⟨v,o,ho,hd⟩:=I.cell x c e;obtain⟨m,⟨o',es,ep,ho',hd',_⟩,_⟩:=I.loc;rw[z,ho']at ho;cases ho;rw[hd']at hd;cases hd
theorem Inv.funs (I:Inv X pins U H s):s.heap.FunFrames X.base X.outer:=by
 have all:∀(l:List Env),(∀b∈frs l,b∈X.fs)->X.s₀.heap.FunFrames X.base l->s.heap.FunFrames X.base l:=by
  intro l
  induction l with
  | nil=>intro _ _;trivial
  | cons env r ih =>
  intro hs hl;obtain⟨hk,⟨L,o,hf,hn,ho,hd⟩,hr⟩:=hl;have hL:L∈X.fs:=hs L (by unfold frs;rw[List.filterMap_cons,hf];exact Xp);obtain⟨sl,e⟩:=I.base.slot L o ho (I.ok.frf L hL) hL λz=>I.ok.exfs L z hL;exact⟨hk,⟨L,_,hf,hn,e,hd⟩,ih (λb hb=>hs b (by unfold frs;rw[List.filterMap_cons,hf];exact Qn _ hb)) hr⟩
 exact all X.outer (λ_ hb=>hb) I.ok.funs
theorem Inv.stack (I:Inv X pins U H s):s.heap.FunFrames X.base X.stack:=by
 rcases I.ok.stk with e|⟨e,hf⟩
 ·rw[e];exact I.funs
 rw[e];obtain⟨m,hn,_⟩:=I.loc;refine .cons (by rw[I.ok.kind];decide) hf hn ?_ I.funs;exact Heap.get?_none_of_le (QJ I.ok.bsz I.ok.above)
theorem Inv.stkSub (I:Inv X pins U H s):∀b∈frs X.stack,b∈X.env.locals::X.fs:=λb hb=>by
 rcases I.ok.stk with e|⟨e,hf⟩
 ·rw[e]at hb;exact Qn _ hb
 rw[e]at hb;unfold frs at hb;rw[List.filterMap_cons,hf]at hb;exact hb
theorem Inv.stkFree (I:Inv X pins U H s):∀b∈frs X.stack,H b=none:=λb hb=>by
 rcases Qj.mp (I.stkSub b hb) with e|hb
 ·rw[e];exact I.free
 obtain⟨_,o,ho,_⟩:=I.ok.funs.mem hb;exact I.base.free b o ho (I.ok.frf b hb) λz=>I.ok.exfs b z hb
theorem Inv.step {g':Array GenState} {t':Nat} {d':Drawn} {ch:B3} (I:Inv X pins U H s)
  (hch:∀b∈ch,(b∈X.ex\/X.s₀.heap.objs.size<=b)/\b≠X.env.locals/\(∀x c,X.env.cells.lookup x=some c->c≠b)/\∀p∈X.pn++pins,p.1≠b)
  (keep:∀b o,b≠X.env.locals->b∉X.fs->b∉ch->s.heap.get? b=some o->H b=none->h'.get? b=some o)
  (slot:∀b o,b≠X.env.locals->b∈X.fs->b∉ch->s.heap.get? b=some o->H b=none->∃sl,h'.get? b=some { o with slots:=sl }) (free:∀b o,b∉ch->s.heap.get? b=some o->H b=none->H' b=none)
  (there:∀b o,b∉ch->s.heap.get? b=some o->∃o',h'.get? b=some o')
  (tups:∀b xs,H b=some (.tup xs)->H' b=some (.tup xs)) (frzs:∀b o u,H b=some (.frz o u)->H' b=some (.frz o u)) (tbls:∀b ps,H b=some (.tbl ps)->∃more,H' b=some (.tbl (ps++more)))
  (ns:∀m,s.heap.Ns X.env.locals m->h'.Ns X.env.locals m) (hok:HOk X.prog X.w H' h') (hg:AllBare g') :
  Inv X pins U H' { s with heap:=h',gens:=g',drawn:=d',toks:=t' }:=by
 have neL:∀b o,X.s₀.heap.get? b=some o->b≠X.env.locals:=λb o e=>QB (QN (Qq e) I.ok.above)
 have neC:∀b o,X.s₀.heap.get? b=some o->b∉X.ex->b∉ch:=λb o e hx hb=>by
  rcases(hch b hb).1 with z|z
  ·exact hx z
  exact absurd (QN (Qq e) z) (Zb _)
 have cellK:∀x c,X.env.cells.lookup x=some c->∀v,s.heap.IsCell c v->h'.IsCell c v:=λx c e v ⟨o,ho,hd⟩=>by
  have nch:c∉ch:=λz=>(hch c z).2.2.1 x c e rfl;by_cases hc:c∈X.fs
  ·obtain⟨sl,q⟩:=slot c o (I.cne x c e) hc nch ho (I.freeC x c e);exact⟨_,q,hd⟩
  exact⟨o,keep c o (I.cne x c e) hc nch ho (I.freeC x c e),hd⟩
 refine⟨I.ok,I.os,hg,⟨λb o e n hb hx=>?_,λb o e n hb hx=>?_,λb o e n hx=>?_,λb o e hx=>?_,λb xs e=>tups b xs (I.base.tups b xs e),λb o xs e=>frzs b o xs (I.base.frzs b o xs e),λb ps e=>?_⟩,?_,λx c e=>?_,?_,λx c e=>?_,λp hp=>?_,hok,I.len⟩
 ·exact keep b o (neL b o e) hb (neC b o e hx) (I.base.keep b o e n hb hx) (I.base.free b o e n hx)
 ·obtain⟨sl,e1⟩:=I.base.slot b o e n hb hx;obtain⟨sl',e2⟩:=slot b _ (neL b o e) hb (neC b o e hx) e1 (I.base.free b o e n hx);exact⟨sl',e2⟩
 ·obtain⟨o',e1⟩:=I.base.there b o e hx;exact free b o' (neC b o e hx) e1 (I.base.free b o e n hx)
 ·obtain⟨o',e1⟩:=I.base.there b o e hx;exact there b o' (neC b o e hx) e1
 ·obtain⟨m1,e1⟩:=I.base.tbls b ps e;obtain⟨m2,e2⟩:=tbls b _ e1;exact⟨m1++m2,by rw[e2,Array.append_assoc]⟩
 ·obtain⟨m,hn,hl⟩:=I.loc;refine⟨m,ns m hn,λi x v e1 e2 e3=>?_⟩;obtain⟨u,r,l⟩:=hl i x v e1 e2 e3;refine⟨u,r,?_⟩;rcases l with l|⟨k,c,e,z⟩
  ·exact .inl l
  exact .inr ⟨k,c,e,cellK x c e _ z⟩
 ·obtain⟨v,z⟩:=I.cell x c e;exact⟨v,cellK x c e v z⟩
 ·obtain⟨m,⟨o,_,_,ho,_⟩,_⟩:=I.loc;exact free _ o (λz=>(hch _ z).2.1 rfl) ho I.free
 ·obtain⟨v,o,ho,hd⟩:=I.cell x c e;exact free c o (λz=>(hch c z).2.2.1 x c e rfl) ho (I.freeC x c e)
 obtain⟨e,n,ne,nf,d⟩:=I.pin p hp;have nch:p.1∉ch:=λz=>(hch p.1 z).2.2.2 p hp rfl;exact⟨keep p.1 p.2 ne nf nch e n,free p.1 p.2 nch e n,ne,nf,d⟩
theorem Inv.un {t':Nat} (I:Inv X pins U H s) (u:Un X.fs [] H H' s.heap h') (hok:HOk X.prog X.w H' h'):Inv X pins U H' { s with heap:=h',toks:=t' }:=by
 obtain⟨m,⟨o,es,ep,ho,r⟩,_⟩:=id I.loc;obtain⟨sl,hL⟩:=u.any ho I.free (by simp)
 exact I.step (g':=s.gens) (d':=s.drawn) (ch:=[]) (λ_ z=>nomatch z) (λb o _ hb _ e n=>u.keep b o e n hb (by simp)) (λb o _ hb _ e n=>u.slot b o e n hb (by simp)) (λb o _ e n=>u.free b o e n (by simp)) (λb o _ e=>u.there b o e (by simp)) u.tups u.frzs u.tbls (λm' hm=>by
  obtain⟨o',es',ep',ho',r'⟩:=hm;rw[ho]at ho';cases ho'
  exact⟨_,es',ep',hL,r'⟩) hok I.bare
theorem Inv.call {g':Array GenState} {t':Nat} {d':Drawn} {ch:B3} (I:Inv X pins U H s) (u:Un (frs X.stack) ch H H' s.heap h') (hok:HOk X.prog X.w H' h') (hg:AllBare g')
  (hch:∀b∈ch,(b∈X.ex\/X.s₀.heap.objs.size<=b)/\b≠X.env.locals/\(∀x c,X.env.cells.lookup x=some c->c≠b)/\∀p∈X.pn++pins,p.1≠b) :
  Inv X pins U H' { s with heap:=h',gens:=g',drawn:=d',toks:=t' }:=by
 obtain⟨m,⟨o,es,ep,ho,r⟩,_⟩:=id I.loc;obtain⟨sl,hL⟩:=u.any ho I.free λz=>(hch _ z).2.1 rfl
 exact I.step (ch:=ch) hch (λb o hL hb hc e n=>u.keep b o e n (λz=>(Qj.mp (I.stkSub b z)).elim hL hb) hc) (λb o _ _ hc e n=>u.any e n hc) (λb o hc e n=>u.free b o e n hc) (λb o hc e=>u.there b o e hc) u.tups u.frzs u.tbls (λm' hm=>by
  obtain⟨o',es',ep',ho',r'⟩:=hm;rw[ho]at ho';cases ho'
  exact⟨_,es',ep',hL,r'⟩) hok hg
theorem Inv.turned {t':Nat} {it:Addr} (I:Inv X pins U H s) (k:∀b o,b≠it->s.heap.get? b=some o->h'.get? b=some o) (hn:H it=none) (hL:it≠X.env.locals)
  (h1:it∈X.ex\/X.s₀.heap.objs.size<=it) (h2:∀x c,X.env.cells.lookup x=some c->c≠it) (h3:∀p∈X.pn++pins,p.1≠it):Inv X pins U H { s with heap:=h',toks:=t' }:=by
 have nit:∀b u,H b=some u->b≠it:=λb u e z=>by rw[z,hn]at e;cases e
 refine I.step (g':=s.gens) (d':=s.drawn) (ch:=[it]) (λb hb=>?_) (λb o _ _ hc e _=>k b o (λz=>hc (by simp[z])) e) (λb o _ _ hc e _=>⟨o.slots,k b o (λz=>hc (by simp[z])) e⟩) (λ_ _ _ _ n=>n)
  (λb o hc e=>⟨o,k b o (λz=>hc (by simp[z])) e⟩) (λ_ _ e=>e) (λ_ _ _ e=>e) (λb ps e=>⟨#[],by rw[e];simp⟩) (λm hm=>?_) (λb u e=>?_) I.bare
 ·have e:b=it:=by simpa using hb
  subst e;exact⟨h1,hL,h2,h3⟩
 ·obtain⟨o,es,ep,ho,r⟩:=hm;exact⟨o,es,ep,k _ o (Ne.symm hL) ho,r⟩
 refine(I.hok b u e).stay (λc v hc q=>k c v ?_ q) (λ_ q=>q) λ_ _ q=>q;rcases hc with z|z
 ·rw[z];exact nit b u e
 exact nit c _ z
theorem Inv.tok (I:Inv X pins U H s) (t:Nat):Inv X pins U H { s with toks:=t }:=I.un (h':=s.heap) (t':=t) Un.refl I.hok
theorem Inv.kept {t':Nat} (I:Inv X pins U H s) (k:∀b u,s.heap.get? b=some u->h'.get? b=some u):Inv X pins U H { s with heap:=h',toks:=t' }:=I.un (Un.kept k) (I.hok.kept k)
theorem Inv.laid {a:Addr} {o:HO} {t':Nat} (I:Inv X pins U H s) (k:∀b u,s.heap.get? b=some u->h'.get? b=some u) (hp:s.heap.objs.size<=a) (new:be X.prog X.w (upd H a o) h' a o) :
  Inv X pins U (upd H a o) { s with heap:=h',toks:=t' }:=I.un (Un.laid k hp (I.hok.fresh hp)) (I.hok.laid k hp new)
theorem Inv.write {x e:Addr} {o:HO} {t':Nat} (I:Inv X pins U H s) (mu:Mut (H x)) (he:e=x\/H e=some (.own x)) (k:∀b u,b≠e->s.heap.get? b=some u->h'.get? b=some u) (heo:∃u,h'.get? e=some u)
  (new:be X.prog X.w (upd H x o) h' x o):Inv X pins U (upd H x o) { s with heap:=h',toks:=t' }:=I.un (Un.write mu he k heo) (I.hok.write mu he k heo new)
theorem Inv.weak {σ':List (Option V)} (I:Inv X pins U H s) (hl:σ'.length=U.length) (w:∀(i:Nat) v,σ'[i]?=some (some v)->U[i]?=some (some v)):Inv X pins σ' H s :=
 ⟨I.ok,I.os,I.bare,I.base,let ⟨m,hn,hl'⟩:=I.loc;⟨m,hn,λi x v e1 e2 e3=>hl' i x v e1 (w i v e2) e3⟩,I.cell,I.free,I.freeC,I.pin,I.hok,hl.trans I.len⟩
theorem Inv.pins_of {pins':B1} (I:Inv X pins U H s) (h:∀p∈pins',s.heap.get? p.1=some p.2/\H p.1=none/\p.1≠X.env.locals/\p.1∉X.fs/\∀v,p.2.data≠.cell v):Inv X pins' U H s :=
 ⟨I.ok,I.os,I.bare,I.base,I.loc,I.cell,I.free,I.freeC,λp hp=>(Qz.mp hp).elim (λz=>I.pin p (Xb _ z)) (h p),I.hok,I.len⟩
theorem mW {N:List Str} (hN:N.Nodup) {i j:Nat} {x:Str} (a:N[i]?=some x) (b:N[j]?=some x):i=j:=by
 obtain⟨h1,e1⟩:=Qd.mp a;obtain⟨h2,e2⟩:=Qd.mp b;exact(List.getElem_inj hN).mp (e1.trans e2.symm)
variable {Q:Unit->Shared->Prop} {E:B0}
theorem jI {M:Model} {A:Around} {i:Nat} {x:Str} {v:V} {u:Value} (I:Inv X pins U H s) (hN:X.N.Nodup) (hi:X.N[i]?=some x) (hx:Loc X.env.scope x) (r:aL v u)
  (h:∀s',Inv X pins (U.set i (some v)) H s'->(∃a,Heap.SameBut a s.heap s'.heap/\(a=X.env.locals\/X.env.cells.lookup x=some a))->Q () s') (hf:X.fn x=true\/X.env.scope.names.lookup x=some .local:=by z_go):wpAny M A (storeName X.env x u) Q E s:=by
 obtain⟨m,hn,hl⟩:=id I.loc;have hcls:(X.env.scope.kind==.class || (X.env.scope.kind==.module&&X.env.locals != X.env.globals))=false:=by rw[I.ok.kind];rfl
 have hiσ:i<U.length:=by rw[I.len];exact(Qd.mp hi).1
 have cne:=I.cne
 have tracked:∀{a:Addr} {h':Heap},(∃o,s.heap.get? a=some o/\H a=none)->Heap.SameBut a s.heap h'->HOk X.prog X.w H h':=λ{a h'} ha hs b ob e=>by
  obtain⟨_,_,hfree⟩:=ha;refine(I.hok b ob e).stay (λc w' hc q=>(hs.2 c ?_).trans q) (λ_ q=>q) λ_ _ q=>q;rintro rfl;rcases hc with rfl|hc
  ·rw[hfree]at e;cases e
  rw[hfree]at hc;cases hc
 rcases hx with hk|hk
 ·refine wpAny_storeName_local hk hn (λh' hn' hs=>?_) hcls;obtain⟨oL,_,_,hoL,_⟩:=id hn;refine h _ ⟨I.ok,I.os,I.bare,⟨λb o e n hb hx=>?_,λb o e n hb hx=>?_,I.base.free,λb o e hx=>?_,I.base.tups,I.base.frzs,I.base.tbls⟩,⟨_,hn',λj y v' e1 e2 e3=>?_⟩,λy c e=>?_,I.free,I.freeC,λp hp=>?_,tracked ⟨oL,hoL,I.free⟩ hs,by simpa using I.len⟩ ⟨_,hs,.inl rfl⟩
  ·exact(hs.2 b (QB (QN (Qq e) I.ok.above))).trans (I.base.keep b o e n hb hx)
  ·obtain⟨sl,e1⟩:=I.base.slot b o e n hb hx;exact⟨sl,(hs.2 b (QB (QN (Qq e) I.ok.above))).trans e1⟩
  ·obtain⟨o',e1⟩:=I.base.there b o e hx;exact⟨o',(hs.2 b (QB (QN (Qq e) I.ok.above))).trans e1⟩
  ·by_cases hj:j=i
   ·subst hj;rw[hi]at e1;cases e1;rw[List.getElem?_set_self hiσ]at e2;cases e2;exact⟨u,r,.inl ⟨hk,by simp⟩⟩
   rw[List.getElem?_set_ne (Ne.symm hj)]at e2;obtain⟨u',r',q⟩:=hl j y v' e1 e2 e3;refine⟨u',r',?_⟩;rcases q with⟨k,e⟩|⟨k,c,e,z⟩
   ·refine .inl ⟨k,?_⟩;have:y≠x:=λe=>hj (mW hN e1 (e▸hi));simp[this,e]
   exact .inr ⟨k,c,e,z.sameBut hs (cne y c e)⟩
  ·obtain⟨w',z⟩:=I.cell y c e;exact⟨w',z.sameBut hs (cne y c e)⟩
  obtain⟨e,n,ne,nf,d⟩:=I.pin p hp;exact⟨(hs.2 p.1 ne).trans e,n,ne,nf,d⟩
 have hfn:X.fn x=true:=by
  rcases hf with z|z
  ·exact z
  rw[z]at hk;cases hk
 obtain⟨c,hc⟩:=I.ok.has x (.inl hk);obtain⟨w',z⟩:=I.cell x c hc;refine wpAny_storeName_cell I.ok.kind hk hc z (λh' hc' hs=>?_);obtain⟨oc,hoc,hocd⟩:=id z;refine h { s with heap:=h' } ⟨I.ok,I.os,I.bare,⟨λb o e n hb hx=>?_,λb o e n hb hx=>?_,I.base.free,λb o e hx=>?_,I.base.tups,I.base.frzs,I.base.tbls⟩,⟨m,hn.sameBut hs (Ne.symm (cne x c hc)),λj y v' e1 e2 e3=>?_⟩,λy c' e=>?_,I.free,I.freeC,λp hp=>?_,tracked ⟨oc,hoc,I.freeC x c hc⟩ hs,by simpa using I.len⟩ ⟨c,hs,.inr hc⟩
 ·exact(hs.2 b (QB (QN (Qq e) (I.ok.cab x c hfn hc)))).trans (I.base.keep b o e n hb hx)
 ·obtain⟨sl,e1⟩:=I.base.slot b o e n hb hx;exact⟨sl,(hs.2 b (QB (QN (Qq e) (I.ok.cab x c hfn hc)))).trans e1⟩
 ·obtain⟨o',e1⟩:=I.base.there b o e hx;exact⟨o',(hs.2 b (QB (QN (Qq e) (I.ok.cab x c hfn hc)))).trans e1⟩
 ·by_cases hj:j=i
  ·subst hj;rw[hi]at e1;cases e1;rw[List.getElem?_set_self hiσ]at e2;cases e2;exact⟨u,r,.inr ⟨.inl hk,c,hc,hc'⟩⟩
  rw[List.getElem?_set_ne (Ne.symm hj)]at e2;obtain⟨u',r',q⟩:=hl j y v' e1 e2 e3;refine⟨u',r',?_⟩;rcases q with q|⟨k,c',e,z'⟩
  ·exact .inl q
  refine .inr ⟨k,c',e,z'.sameBut hs ?_⟩;rintro rfl;exact hj (mW hN e1 (I.ok.inj _ _ _ e hc▸hi))
 ·by_cases hcc:c'=c
  ·subst hcc;exact⟨_,hc'⟩
  obtain⟨w2,z2⟩:=I.cell y c' e;exact⟨w2,z2.sameBut hs hcc⟩
 obtain⟨e,n,ne,nf,d⟩:=I.pin p hp;refine⟨(hs.2 p.1 ?_).trans e,n,ne,nf,d⟩;intro q;rw[q,hoc]at e;have q':oc=p.2:=QF e;exact d w' (by rw[<-q'];exact hocd)
theorem iz {M:Model} {A:Around} {i:Nat} {x:Str} {v:V} {u:Value} (I:Inv X pins U H s) (hN:X.N.Nodup) (hi:X.N[i]?=some x) (hx:Loc X.env.scope x) (r:aL v u)
  (h:∀s',Inv X pins (U.set i (some v)) H s'->Q () s') (hf:X.fn x=true\/X.env.scope.names.lookup x=some .local:=by z_go):wpAny M A (storeName X.env x u) Q E s :=
 jI I hN hi hx r (λs' I' _=>h s' I') hf
theorem Inv.call' {s':Shared} {ch:B3} (I:Inv X pins U H s) (ho:s'.os=s.os) (u:Un (frs X.stack) ch H H' s.heap s'.heap) (hok:HOk X.prog X.w H' s'.heap) (hg:AllBare s'.gens)
  (hch:∀b∈ch,(b∈X.ex\/X.s₀.heap.objs.size<=b)/\b≠X.env.locals/\(∀x c,X.env.cells.lookup x=some c->c≠b)/\∀p∈X.pn++pins,p.1≠b):Inv X pins U H' s':=by
 obtain⟨h',g',d',t',o'⟩:=s';have e:o'=s.os:=ho;subst e;exact I.call (g':=g') (t':=t') (d':=d') u hok hg hch
end
abbrev XK:=Value->Option Addr->Hp->Prop
abbrev St:=List (Option V)
abbrev VK:=V->Hp->Prop
abbrev TE:=St->Hp->VK->Prop
abbrev TT:=St->Hp->(Bool->Hp->Prop)->Prop
abbrev TA:=St->Hp->(List V->Hp->Prop)->Prop
structure Ends where
 nx:St->Hp->Prop
 rt:VK
 bk:St->Hp->Prop:=λ_ _=>False
 ct:St->Hp->Prop:=λ_ _=>False
abbrev TS:=Ends->St->Hp->Prop
def EP (X:Cx) (pins:B1) (U:St) (Q:VK) (u:Value) (s':Shared):Prop:=∃v H',Inv X pins U H' s'/\aL v u/\Q v H'
def TP (X:Cx) (pins:B1) (U:St) (Q:Bool->Hp->Prop) (b:Bool) (s':Shared):Prop:=∃H',Inv X pins U H' s'/\Q b H'
def AP (X:Cx) (pins:B1) (U:St) (Q:List V->Hp->Prop) (us:List Value) (s':Shared):Prop:=∃vs H',Inv X pins U H' s'/\aQ vs us/\Q vs H'
def SP (X:Cx) (pins:B1) (D:Ends) (f:Flow) (s':Shared):Prop :=
 match f with
 | .next=>∃σ' H',Inv X pins σ' H' s'/\D.nx σ' H'
 | .brk=>∃σ' H',Inv X pins σ' H' s'/\D.bk σ' H'
 | .cont=>∃σ' H',Inv X pins σ' H' s'/\D.ct σ' H'
 | .ret u=>∃v σ' H',Inv X pins σ' H' s'/\aL v u/\D.rt v H'
def PE (X:Cx) (e:Expr) (t:TE):Prop :=
 ∀(pins:B1) (s:Shared) (U:St) (H:Hp) (Q:VK),Inv X pins U H s->t U H Q->wpAny (model X.prog X.w) X.A (eval e X.env) (EP X pins U Q) X.xe s
def PT (X:Cx) (e:Expr) (t:TT):Prop :=
 ∀(pins:B1) (s:Shared) (U:St) (H:Hp) (Q:Bool->Hp->Prop),Inv X pins U H s->t U H Q->wpAny (model X.prog X.w) X.A (isTrue e X.env (eval e X.env)) (TP X pins U Q) X.xe s
def PW (X:Cx) (e:Expr) (t:TT):Prop :=
 ∀(whole:Sem Value) (pins:B1) (s:Shared) (U:St) (H:Hp) (Q:Bool->Hp->Prop),Inv X pins U H s->t U H Q->wpAny (model X.prog X.w) X.A (isTrue e X.env whole) (TP X pins U Q) X.xe s
variable {e tg:Expr} {X:Cx}
theorem PW.pt {t:TT} (h:PW X e t):PT X e t:=h _
def PA (X:Cx) (es:List Expr) (t:TA):Prop :=
 ∀(pos:Pos) (pins:B1) (s:Shared) (U:St) (H:Hp) (Q:List V->Hp->Prop),Inv X pins U H s->t U H Q->wpAny (model X.prog X.w) X.A (spliced (backTo pos (starEach es X.env))) (AP X pins U Q) X.xe s
def PS (X:Cx) (st:Stmt) (t:TS):Prop :=
 ∀(pins:B1) (s:Shared) (U:St) (H:Hp) (D:Ends),Inv X pins U H s->t D U H->wpAny (model X.prog X.w) X.A (exec st X.env) (SP X pins D) X.xe s
def PSs (X:Cx) (st:List Stmt) (t:TS):Prop :=
 ∀(pins:B1) (s:Shared) (U:St) (H:Hp) (D:Ends),Inv X pins U H s->t D U H->wpAny (model X.prog X.w) X.A (execs st X.env) (SP X pins D) X.xe s
variable {s s1:Shared} {E:B0}
theorem thn {α:Type} {t:Sem α} {Q Q':α->Shared->Prop} {M:Model} (h:wpAny M A t Q E s) (hQ:∀a s,Q a s->Q' a s):wpAny M A t Q' E s:=XT h hQ λ_ _ x=>x
section
variable {X:Cx}
def fO (i:Nat):TE:=λU H Q=>∃v,U[i]?=some (some v)/\Q v H
def tC (v:V):TE:=λ_ H Q=>Q v H
variable {x:Str}
theorem yX {i:Nat} {pos:Pos} (hN:X.N[i]?=some x) (hv:Vis X.env.scope x) (hd:(x==("__debug__" : Str))=false:=by decide) (hcd:(x==("__classdict__" : Str))=false:=by decide):PE X (.Name x pos) (fO i):=by
 intro pins s U H Q I h;obtain⟨v,e,h⟩:=h;obtain⟨m,hn,hl⟩:=I.loc;obtain⟨u,r,l⟩:=hl i x v hN e hv;have fin:EP X pins U Q u s:=⟨v,H,I,r,h⟩;rcases l with⟨hk,hm⟩|⟨hk,c,hc,hcell⟩
 ·exact wpAny_Name (wpAny_loadName_local I.ok.kind hk hn hm fin) hd
 rcases hk with hk|hk
 ·exact wpAny_Name (wpAny_loadName_cell I.ok.kind hk hc hcell fin) hd
 exact wpAny_Name (wpAny_loadName_free I.ok.kind hk hc hcell fin hcd) hd
theorem ae {i j pos}:PE X (.Constant (.int i) j pos) (tC (.int i)):=λ_ _ _ H _ I h=>wpAny_Constant_int ⟨.int i,H,I.tok _,⟨_,rfl⟩,h⟩
theorem cq {b j pos}:PE X (.Constant (.bool b) j pos) (tC (.bl b)):=λ_ _ _ H _ I h=>Constant_bool ⟨.bl b,H,I,rfl,h⟩
theorem o8 {j pos}:PE X (.Constant .none j pos) (tC .non):=λ_ _ _ H _ I h=>Constant_none ⟨.non,H,I,rfl,h⟩
theorem bj {x j pos}:PE X (.Constant (.str x) j pos) (tC (.str x)):=λ_ _ _ H _ I h=>Calls.Constant_str ⟨.str x,H,I.tok _,⟨_,rfl⟩,h⟩
def Gl (X:Cx) (x:Str):Prop:=X.env.kindOf x=some .globalImplicit
variable {Q E:B0} {u:Value} {pins:B1}
theorem lh {s:Shared} {U:St} {H:Hp} {pos:Pos} (I:Inv X pins U H s) (hg:Gl X x) (hm:X.mg x=some u) (h:Q u s)
  (hd:(x==("__debug__" : Str))=false:=by decide):wpAny (model X.prog X.w) X.A (eval (.Name x pos) X.env) Q E s :=
 Calls.Name_function_global I.ok.kind hg (Calls.loadGlobal_global (by rw[I.ok.glob];exact I.mod.glob.keeps I.bk) hm h) hd
theorem cL {s:Shared} {U:St} {H:Hp} {pos:Pos} (I:Inv X pins U H s) (hg:Gl X x) (hm:X.mg x=none) (hv:bootBuiltins x=some u) (h:Q u s)
  (hn:x ≠ "__name__" := by decide) (hd:(x==("__debug__" : Str))=false:=by decide):wpAny (model X.prog X.w) X.A (eval (.Name x pos) X.env) Q E s:=by
 obtain⟨mb,h1,h2⟩:=I.mod.blt;exact Calls.Name_function_global I.ok.kind hg (Calls.loadGlobal_builtin (by rw[I.ok.glob];exact I.mod.glob.keeps I.bk) hm (by rw[I.ok.blt];exact h1.keeps I.bk) ((h2 x hn).trans hv) h) hd
theorem c_ {v:V} {pos:Pos} (hg:Gl X x) (hm:X.mg x=some u) (r:aL v u) (hd:(x==("__debug__" : Str))=false:=by decide):PE X (.Name x pos) (tC v) :=
 λ_ _ _ H _ I h=>lh I hg hm ⟨v,H,I,r,h⟩ hd
theorem db {v:V} {pos:Pos} (hg:Gl X x) (hm:X.mg x=none) (hv:bootBuiltins x=some u) (r:aL v u) (hn:x ≠ "__name__" := by decide) (hd:(x==("__debug__" : Str))=false:=by decide):PE X (.Name x pos) (tC v) :=
 λ_ _ _ H _ I h=>cL I hg hm hv ⟨v,H,I,r,h⟩ hn hd
variable {a b:Expr} {ta tb:TE} {pos:Pos}
def PC (X:Cx) (op:CmpOp) (a b:Expr) (t:TE):Prop :=
 ∀(pins:B1) (s:Shared) (U:St) (H:Hp) (Q:VK),Inv X pins U H s->t U H Q ->
  wpAny (model X.prog X.w) X.A (eval a X.env) (λv s₁=>wpAny (model X.prog X.w) X.A (eval b X.env) (λu s₂=>wpAny (model X.prog X.w) X.A (compareOp op v u) (EP X pins U Q) X.xe s₂) X.xe s₁) X.xe s
def tB (t:TE):TT:=λU H Q=>t U H λx H1=>∃c,x=.bl c/\Q c H1
theorem uw {op:CmpOp} {t:TE} (h:PC X op a b t) (h1:behindInMarks op b=false:=by first|exact nobehind _ (by decide) (by decide)|rfl):PT X (.Compare a [op] [b] pos) (tB t):=by
 intro pins s U H Q I hw;refine wpAny_isTrue_Compare1 (thn (h pins s U H _ I hw) λv s1 h1=>thn h1 λu s2 h2=>thn h2 λc s3 ⟨x,H1,I1,r1,q1⟩=>?_) h1;obtain⟨d,rfl,q⟩:=q1;cases r1;exact XW ⟨H1,I1,q⟩
theorem cr {e:Expr} {t:TE} (h:PE X e t) (he:∀whole,isTrue e X.env whole=(do let v <-whole;standAt e.pos;holding [v] (truthy v)):=by intro _;rfl):PT X e (tB t):=by
 intro pins s U H Q I hw;refine isTrue_plain (thn (h pins s U H _ I hw) λv s1 ⟨x,H1,I1,r1,q1⟩=>?_) (he _);obtain⟨d,rfl,q⟩:=q1;cases r1;exact XW ⟨H1,I1,q⟩
variable {tA tB':TT} {rest:List Expr}
def Ad (t u:TT):TT:=λU H Q=>t U H λc H1=>if c=true then u U H1 Q else Q false H1
def tOr (t u:TT):TT:=λU H Q=>t U H λc H1=>if c=true then Q true H1 else u U H1 Q
def zX (t:TT):TT:=λU H Q=>t U H λc H1=>Q (!c) H1
theorem kX (ha:PT X a tA):PW X (.BoolOp .And [a] pos) tA:=by
 intro wh pins s U H Q I h;refine isTrue_and (thn (ha pins s U H Q I h) λc s1 e=>?_)
 cases c with
 | true=>exact isTrue_and_nil e
 | false=>exact e
theorem dv (ha:PT X a tA):PW X (.BoolOp .Or [a] pos) tA:=by
 intro wh pins s U H Q I h;refine isTrue_or (thn (ha pins s U H Q I h) λc s1 e=>?_)
 cases c with
 | false=>exact isTrue_or_nil e
 | true=>exact e
theorem oX (ha:PT X a tA) (hb:PW X (.BoolOp .And (b::rest) pos) tB'):PW X (.BoolOp .And (a::b::rest) pos) (Ad tA tB'):=by
 intro wh pins s U H Q I h;refine isTrue_and (thn (ha pins s U H _ I h) λc s1 ⟨H1,I1,q1⟩=>?_)
 cases c with
 | true=>exact hb wh pins s1 U H1 Q I1 q1
 | false=>exact⟨H1,I1,q1⟩
theorem dR (ha:PT X a tA) (hb:PW X (.BoolOp .Or (b::rest) pos) tB'):PW X (.BoolOp .Or (a::b::rest) pos) (tOr tA tB'):=by
 intro wh pins s U H Q I h;refine isTrue_or (thn (ha pins s U H _ I h) λc s1 ⟨H1,I1,q1⟩=>?_)
 cases c with
 | true=>exact⟨H1,I1,q1⟩
 | false=>exact hb wh pins s1 U H1 Q I1 q1
theorem cz (ha:PT X a tA):PT X (.UnaryOp .Not a pos) (zX tA):=by
 intro pins s U H Q I h;exact isTrue_not (ha pins s U H (λc H1=>Q (!c) H1) I h)
def xV (ta tb:TE):TE:=λU H Q=>ta U H λx H1=>∃c,x=.bl c/\if c=true then tb U H1 Q else Q (.bl false) H1
def A8 (ta tb:TE):TE:=λU H Q=>ta U H λx H1=>∃c,x=.bl c/\if c=true then Q (.bl true) H1 else tb U H1 Q
def xR (ta:TE):TE:=λU H Q=>ta U H λx H1=>∃c,x=.bl c/\Q (.bl (!c)) H1
theorem eC {op} {t:TE} (h:PE X a t):PE X (.BoolOp op [a] pos) t:=λpins s U H Q I hw=>BoolOp_one (h pins s U H Q I hw)
theorem dw (ha:PE X a ta) (hb:PE X (.BoolOp .And (b::rest) pos) tb):PE X (.BoolOp .And (a::b::rest) pos) (xV ta tb):=by
 intro pins s U H Q I h;refine BoolOp_and (thn (ha pins s U H _ I h) λv s1 ⟨x,H1,I1,r1,q1⟩=>?_);obtain⟨c,rfl,q1⟩:=q1;cases r1;refine XW ?_
 cases c with
 | true=>exact hb pins s1 U H1 Q I1 q1
 | false=>exact⟨.bl false,H1,I1,rfl,q1⟩
theorem uG (ha:PE X a ta):PE X (.UnaryOp .Not a pos) (xR ta):=by
 intro pins s U H Q I h;refine UnaryOp_ (thn (ha pins s U H _ I h) λv s1 ⟨x,H1,I1,r1,q1⟩=>?_);obtain⟨c,rfl,q1⟩:=q1;cases r1;exact not_of (XW ⟨.bl (!c),H1,I1,rfl,q1⟩)
def tIf (t:TT) (ta tb:TE):TE:=λU H Q=>t U H λc H1=>if c=true then ta U H1 Q else tb U H1 Q
theorem mQ {c:Expr} (hc:PT X c tA) (ha:PE X a ta) (hb:PE X b tb):PE X (.IfExp c a b pos) (tIf tA ta tb):=by
 intro pins s U H Q I h;refine wpAny_IfExp (thn (hc pins s U H _ I h) λd s1 ⟨H1,I1,q1⟩=>?_)
 cases d with
 | true=>exact ha pins s1 U H1 Q I1 q1
 | false=>exact hb pins s1 U H1 Q I1 q1
end
def SqL (K:PySem.W.Frag) (H:Hp) (a:Addr) (xs:List V):Prop :=
 Rd H a (.lst xs) \/
  ∃(o:Obj) (its:Array Value) (n:Nat),K.lookup a=some o/\o.cls=.type "list" /\ o.dict=none/\o.data=.seq its n/\its.size<=sizeLine/\aQ xs its.toList
def SqT (K:PySem.W.Frag) (H:Hp) (a:Addr) (xs:List V):Prop :=
 Rd H a (.tup xs) \/
  ∃(o:Obj) (its:Array Value) (n:Nat),K.lookup a=some o/\o.cls=.type "tuple" /\ o.data=.seq its n/\its.size<=sizeLine/\aQ xs its.toList
noncomputable def Bj:Value->Option V
 | .none=>some .non
 | .bool b=>some (.bl b)
 | .int i _=>some (.int i)
 | .str x _=>some (.str x)
 | .bytes b _=>some (.byt b)
 | .float b _=>some (.flt b)
 | .ref a=>some (.ref a)
 | .type n=>some (.ty n)
 | _=>none
theorem aL.abs {x:V} (r:aL x u):Bj u=some x:=by
 cases x with
 | non=>cases r;rfl
 | bl _=>cases r;rfl
 | int _=>obtain⟨t,rfl⟩:=r;rfl
 | str _=>obtain⟨t,rfl⟩:=r;rfl
 | byt _=>obtain⟨t,rfl⟩:=r;rfl
 | flt _=>obtain⟨t,rfl⟩:=r;rfl
 | ref _=>cases r;rfl
 | ty _=>cases r;rfl
theorem aL.inj {x y:V} (r:aL x u) (q:aL y u):x=y:=QF (r.abs.symm.trans q.abs)
theorem aQ.inj:∀{xs ys:List V} {us:List Value},aQ xs us->aQ ys us->xs=ys
 | _,_,_,.nil,.nil=>rfl
 | _,_,_,.cons r t,.cons r' t'=>by rw[r.inj r',aQ.inj t t']
section
variable {X:Cx} {pins:B1} {U:St} {H:Hp} {s:Shared} {a:Addr} {xs ys:List V}
theorem SqL.of {K:PySem.W.Frag} (h:H a=some (.lst xs)):SqL K H a xs:=.inl (.inl h)
theorem SqT.of {K:PySem.W.Frag} (h:H a=some (.tup xs)):SqT K H a xs:=.inl (.inl h)
theorem Inv.list (I:Inv X pins U H s) (h:SqL X.K H a xs):∃its:List Value,aQ xs its/\PlainL s.heap a its.toArray/\xs.length<=sizeLine:=by
 rcases h with h|⟨o,its,n,hk,hc,hd,hs,hz,r⟩
 ·obtain⟨z,its,n,r,e⟩:=h.ok I.hok;exact⟨its,r,⟨_,n,e,rfl,rfl,rfl⟩,z⟩
 refine⟨its.toList,r,⟨o,n,I.kIn a o hk,hc,hd,by simpa using hs⟩,?_⟩;have e:=r.length;simp only[Qi]at e;omega
theorem Inv.tuple (I:Inv X pins U H s) (h:SqT X.K H a xs):∃its:List Value,aQ xs its/\IsTup s.heap a its.toArray/\xs.length<=sizeLine:=by
 rcases h with h|⟨o,its,n,hk,hc,hs,hz,r⟩
 ·obtain⟨z,its,r,p⟩:=h.ok I.hok;exact⟨its,r,p,z⟩
 refine⟨its.toList,r,⟨o,I.kIn a o hk,hc,n,by simpa using hs⟩,?_⟩;have e:=r.length;simp only[Qi]at e;omega
theorem Inv.list_inj (I:Inv X pins U H s) (h:SqL X.K H a xs) (h':SqL X.K H a ys):xs=ys:=by
 obtain⟨its,r,⟨o,n,e,_,_,d⟩,_⟩:=I.list h;obtain⟨its',r',⟨o',n',e',_,_,d'⟩,_⟩:=I.list h';rw[e]at e';cases e';rw[d]at d';injection d' with d1 _;have:its=its':=by simpa using congrArg Array.toList d1
 subst this;exact r.inj r'
theorem Inv.tuple_inj (I:Inv X pins U H s) (h:SqT X.K H a xs) (h':SqT X.K H a ys):xs=ys:=by
 obtain⟨its,r,⟨o,e,_,n,d⟩,_⟩:=I.tuple h;obtain⟨its',r',⟨o',e',_,n',d'⟩,_⟩:=I.tuple h';rw[e]at e';cases e';rw[d]at d';injection d' with d1 _;have:its=its':=by simpa using congrArg Array.toList d1
 subst this;exact r.inj r'
end
abbrev Cx.wish (X:Cx) (E:B0):Cx:={ X with xe:=E }
abbrev Cx.nox (X:Cx):Cx:=X.wish λ_ _=>False
theorem Cx.Ok.wish (ok:X.Ok) (E:B0):(X.wish E).Ok :=
 ⟨ok.mod,ok.kind,ok.glob,ok.blt,ok.above,ok.inj,ok.has,ok.cab,ok.hd,ok.frames,ok.stk,ok.exf,ok.bs,ok.bsz,ok.noex,ok.exfs,ok.funs,ok.frf⟩
theorem Cx.Ok.unwish (ok:(X.wish E).Ok):X.Ok :=
 ⟨ok.mod,ok.kind,ok.glob,ok.blt,ok.above,ok.inj,ok.has,ok.cab,ok.hd,ok.frames,ok.stk,ok.exf,ok.bs,ok.bsz,ok.noex,ok.exfs,ok.funs,ok.frf⟩
section
variable {X:Cx} {pins:B1} {U:St} {H:Hp} {s:Shared} {E:B0}
theorem Inv.wish (I:Inv X pins U H s) (E:B0):Inv (X.wish E) pins U H s:=⟨I.ok.wish E,I.os,I.bare,I.base,I.loc,I.cell,I.free,I.freeC,I.pin,I.hok,I.len⟩
theorem Inv.unwish (I:Inv (X.wish E) pins U H s):Inv X pins U H s:=⟨I.ok.unwish,I.os,I.bare,I.base,I.loc,I.cell,I.free,I.freeC,I.pin,I.hok,I.len⟩
theorem SP.unwish {D:Ends} {f:Flow} {s':Shared} (h:SP (X.wish E) pins D f s'):SP X pins D f s':=by
 cases f with
 | next=>obtain⟨σ',H',I,q⟩:=h;exact⟨σ',H',I.unwish,q⟩
 | brk=>obtain⟨σ',H',I,q⟩:=h;exact⟨σ',H',I.unwish,q⟩
 | cont=>obtain⟨σ',H',I,q⟩:=h;exact⟨σ',H',I.unwish,q⟩
 | ret u=>obtain⟨v,σ',H',I,r,q⟩:=h;exact⟨v,σ',H',I.unwish,r,q⟩
theorem PSs.nox {st:List Stmt} {t:TS} (h:PSs X.nox st t):PSs X st t:=λpins s U H D I hw =>
 XT (h pins s U H D (I.wish _) hw) (λ_ _ q=>q.unwish) λ_ _ z=>False.elim z
end
section
variable {X:Cx} {st:Stmt} {rest:List Stmt} {t u:TS} {e:Expr} {te:TE} {pos:Pos}
def xS:TS:=λD U H=>D.nx U H
def wf (t u:TS):TS:=λD U H=>t { D with nx:=u D } U H
theorem pss_nil:PSs X [] xS:=λ_ _ U H _ I h=>wpAny_execs_nil ⟨U,H,I,h⟩
theorem aK (h1:PS X st t) (h2:PSs X rest u):PSs X (st::rest) (wf t u):=by
 intro pins s U H D I h;refine wpAny_execs_cons (thn (h1 pins s U H { D with nx:=u D } I h) λf s1 q=>?_)
 cases f with
 | next =>
  obtain⟨σ',H',I',q⟩:=q;exact h2 pins s1 σ' H' D I' q
 | ret v=>exact q
 | brk=>exact q
 | cont=>exact q
theorem aI (h1:PS X st t):PSs X [st] t:=by
 intro pins s U H D I h;refine wpAny_execs_cons (thn (h1 pins s U H D I h) λf s1 q=>?_)
 cases f with
 | next=>exact wpAny_execs_nil q
 | ret v=>exact q
 | brk=>exact q
 | cont=>exact q
theorem Inv.quiet {pins:B1} {U:St} {H:Hp} {s:Shared} (I:Inv X pins U H s):interactive X.env=false:=by simp[interactive,I.ok.kind]
def xT (te:TE):TS:=λD U H=>te U H λ_ H1=>D.nx U H1
theorem bZ (he:PE X e te) (hs:swapsWith e none pos.line X.env=pure false:=by rfl):PS X (.Expr e pos) (xT te):=by
 intro pins s U H D I h;exact wpAny_Expr_any (thn (he pins s U H _ I h) λv s1 ⟨x,H1,I1,r1,q1⟩=>⟨U,H1,I1,q1⟩) I.quiet hs
def zW (te:TE):TS:=λD U H=>te U H D.rt
theorem aD (he:PE X e te):PS X (.Return (some e) pos) (zW te):=by
 intro pins s U H D I h;exact wpAny_Return_some (thn (he pins s U H _ I h) λv s1 ⟨x,H1,I1,r1,q1⟩=>⟨x,U,H1,I1,r1,q1⟩)
def zZ (c:TT) (t u:TS):TS:=λD U H=>c U H λb H1=>if b=true then t D U H1 else u D U H1
theorem ps_if {c:Expr} {a b:List Stmt} {tc:TT} (hc:PT X c tc) (ha:PSs X a t) (hb:PSs X b u):PS X (.If c a b pos) (zZ tc t u):=by
 intro pins s U H D I h;refine wpAny_If (thn (hc pins s U H _ I h) λd s1 ⟨H1,I1,q1⟩=>?_)
 cases d with
 | true=>exact ha pins s1 U H1 D I1 q1
 | false=>exact hb pins s1 U H1 D I1 q1
end
abbrev TG:=V->St->Hp->(St->Hp->Prop)->Prop
abbrev TGs:=List V->St->Hp->(St->Hp->Prop)->Prop
def PG (X:Cx) (target:Expr) (t:TG):Prop :=
 ∀(pins:B1) (s:Shared) (U:St) (H:Hp) (v:V) (u:Value) (Q:St->Hp->Prop),Inv X pins U H s->aL v u->t v U H Q ->
  wpAny (model X.prog X.w) X.A (assign target X.env u) (λ_ s'=>∃σ' H',Inv X pins σ' H' s'/\Q σ' H') X.xe s
def PGs (X:Cx) (ts:List Expr) (t:TGs):Prop :=
 ∀(pins:B1) (s:Shared) (U:St) (H:Hp) (vs:List V) (us:List Value) (Q:St->Hp->Prop),Inv X pins U H s->aQ vs us->t vs U H Q ->
  wpAny (model X.prog X.w) X.A (assignInOrder ((assignEach ts X.env).map (·.2)) us) (λ_ s'=>∃σ' H',Inv X pins σ' H' s'/\Q σ' H') X.xe s
abbrev xK:=V->V->V->Hp->(Hp->Prop)->Prop
def A4 (X:Cx) (t:xK):Prop :=
 ∀(pins:B1) (s:Shared) (U:St) (H:Hp) (o i v:V) (ov iv u:Value) (Q:Hp->Prop),Inv X pins U H s->aL o ov->aL i iv->aL v u->t o i v H Q ->
  wpAny (model X.prog X.w) X.A (setItem ov iv u) (λ_ s'=>∃H',Inv X pins U H' s'/\Q H') X.xe s
abbrev TIp:=V->V->Hp->VK->Prop
def PIp (X:Cx) (op:Operator) (t:TIp):Prop :=
 ∀(pins:B1) (s:Shared) (U:St) (H:Hp) (x y:V) (v u:Value) (Q:VK),Inv X pins U H s->aL x v->aL y u->t x y H Q ->
  wpAny (model X.prog X.w) X.A (inplaceOp op v u) (EP X pins U Q) X.xe s
section
variable {X:Cx} {pos:Pos}
def d5 (i:Nat):TG:=λv U H Q=>Q (U.set i (some v)) H
variable {x:Str}
theorem bw {i:Nat} (hN:X.N.Nodup) (hi:X.N[i]?=some x) (hx:Loc X.env.scope x) (hf:X.fn x=true\/X.env.scope.names.lookup x=some .local:=by z_go):PG X (.Name x pos) (d5 i):=by
 intro pins s U H v u Q I r h;exact wpAny_assign_Name (iz I hN hi hx r (λs' I'=>⟨_,H,I',h⟩) hf)
theorem bB (i:Nat) (hN:X.N.Nodup) (hi:X.N[i]?=some x:=by rfl) (hx:Loc X.env.scope x:=by z_go) (hf:X.fn x=true\/X.env.scope.names.lookup x=some .local:=by z_go):PG X (.Name x pos) (d5 i):=bw hN hi hx hf
def Bg:TGs:=λvs U H Q=>vs=[]/\Q U H
def AY (t:TG) (u:TGs):TGs:=λvs U H Q=>∃v r,vs=v::r/\t v U H λσ' H'=>u r σ' H' Q
theorem bL:PGs X [] Bg:=by
 intro pins s U H vs us Q I r h;obtain⟨e,h⟩:=h;subst e;cases r;exact assignInOrder_nil ⟨U,H,I,h⟩
variable {e o i tg:Expr}
theorem aH {es:List Expr} {t:TG} {u:TGs} (h1:PG X e t) (h2:PGs X es u)
  (hs:(assignEach (e::es) X.env).map (·.2)=assign e X.env::(assignEach es X.env).map (·.2):=by rfl):PGs X (e::es) (AY t u):=by
 intro pins s U H vs us Q I r h;obtain⟨v,vr,e1,h⟩:=h;subst e1
 cases r with
 | cons r rr =>
 rw[hs];refine assignInOrder_cons (thn (h1 pins s U H _ _ _ I r h) λ_ s1 ⟨σ1,H1,I1,q1⟩=>?_);exact h2 pins s1 σ1 H1 _ _ Q I1 rr q1
def AW (K:PySem.W.Frag) (n:Nat) (t:TGs):TG:=λv U H Q=>∃a xs,v=.ref a/\SqT K H a xs/\xs.length=n/\t xs U H Q
theorem dQ {es:List Expr} {k:Nat} {t:TGs} {n:Nat} (hc:X.calm=true) (h:PGs X es t)
  (hn:(assignEach es X.env).length=n:=by rfl) (hst:(assignEach es X.env).findIdx? (·.1)=none:=by rfl):PG X (.Tuple es k pos) (AW X.K n t):=by
 intro pins s U H v u Q I r hw;obtain⟨a,xs,e1,hq,hl,hw⟩:=hw;subst e1;cases r;obtain⟨its,rv,ht,hz⟩:=I.tuple hq;refine assign_Tuple_tuple (I.ok.hd hc) ht (by simp[hn,<-hl,rv.length]) hst λh' hx=>?_;have I1:Inv X pins U H { s with heap:=h' }:=I.kept (t':=s.toks) λb o e=>hx b o (QB (Qq e)) e;exact h pins _ U H xs _ Q I1 (by simpa using rv) hw
def AX (to ti:TE) (t:xK):TG:=λv U H Q=>to U H λo H1=>ti U H1 λi H2=>t o i v H2 λH3=>Q U H3
variable {to te:TE}
theorem uF {ti:TE} {t:xK} (ho:PE X o to) (hi:PE X i ti) (hs:A4 X t)
  (ha:∀v,assign (.Subscript o i pos) X.env v=(do
   let ov <-holding [v] (eval o X.env);let iv <-holding [v,ov] (eval i X.env)
   standAt pos
   holding [v,ov,iv] (setItem ov iv v)
   release [v,ov,iv] []):=by intro _;rfl):PG X (.Subscript o i pos) (AX to ti t):=by
 intro pins s U H v u Q I r h;rw[ha];refine Qa (QZ (thn (ho pins s U H _ I h) λov s1 ⟨x,H1,I1,r1,q1⟩=>?_));refine Qa (QZ (thn (hi pins s1 U H1 _ I1 q1) λiv s2 ⟨y,H2,I2,r2,q2⟩=>?_));refine Qa (wpAny_standAt (Qa (QZ (thn (hs pins s2 U H2 x y v ov iv u _ I2 r1 r2 r q2) λ_ s3 ⟨H3,I3,q3⟩=>?_))));exact wpAny_release ⟨U,H3,I3,q3⟩
def tT (te:TE) (g:TG):TS:=λD U H=>te U H λx H1=>g x U H1 D.nx
theorem oY {g:TG} (he:PE X e te) (hg:PG X tg g) (hs:swapsWithSole [tg] e pos.line X.env=pure false:=by rfl) (hw:swappedStores [tg] e X.env=pure none:=by rfl)
  (h1:(assignEach [tg] X.env).map (·.2)=[assign tg X.env]:=by rfl):PS X (.Assign [tg] e pos) (tT te g):=by
 intro pins s U H D I h;refine wpAny_Assign_stores (thn (he pins s U H _ I h) λv s1 ⟨x,H1,I1,r1,q1⟩=>?_) hs hw;rw[h1];exact thn (hg pins s1 U H1 x v _ I1 r1 q1) λ_ s2 q=>q
variable {pos':Pos}
theorem uz {i:Nat} (hN:X.N.Nodup) (hi:X.N[i]?=some x) (hx:Loc X.env.scope x) (he:PE X e te) (hs:swapsWith e (some (.Name x pos')) pos.line X.env=pure false:=by rfl) (hf:X.fn x=true\/X.env.scope.names.lookup x=some .local:=by z_go) :
  PS X (.Assign [.Name x pos'] e pos) (tT te (d5 i)):=by
 intro pins s U H D I h;refine wpAny_Assign_Name (thn (he pins s U H _ I h) λv s1 ⟨y,H1,I1,r1,q1⟩=>?_) hs;exact iz I1 hN hi hx r1 (λs2 I2=>⟨_,H1,I2,q1⟩) hf
theorem aG (i:Nat) (hN:X.N.Nodup) (he:PE X e te) (hi:X.N[i]?=some x:=by rfl) (hx:Loc X.env.scope x:=by z_go) (hs:swapsWith e (some (.Name x pos')) pos.line X.env=pure false:=by rfl) (hf:X.fn x=true\/X.env.scope.names.lookup x=some .local:=by z_go):PS X (.Assign [.Name x pos'] e pos) (tT te (d5 i)):=uz hN hi hx he hs hf
def A9 (i:Nat) (te:TE) (ti:TIp):TS:=λD U H=>∃x,U[i]?=some (some x)/\te U H λy H1=>ti x y H1 λz H2=>D.nx (U.set i (some z)) H2
theorem yV {i:Nat} {op:Operator} {ti:TIp} (hN:X.N.Nodup) (hi:X.N[i]?=some x) (hx:Loc X.env.scope x) (he:PE X e te) (ho:PIp X op ti) (hf:X.fn x=true\/X.env.scope.names.lookup x=some .local:=by z_go) :
  PS X (.AugAssign (.Name x pos') op e pos) (A9 i te ti):=by
 intro pins s U H D I h;obtain⟨v,e1,h⟩:=h;obtain⟨m,hn,hl⟩:=I.loc;have vis:Vis X.env.scope x:=by rcases hx with k|k;exact .inl k;exact .inr (.inl k)
 obtain⟨u,r,l⟩:=hl i x v hi e1 vis;refine wpAny_AugAssign_Name ?_
 have go:wpAny (model X.prog X.w) X.A (eval e X.env) (λw s₂=>wpAny (model X.prog X.w) X.A (inplaceOp op u w) (λr s₃=>wpAny (model X.prog X.w) X.A (storeName X.env x r) (λ_=>SP X pins D .next) X.xe s₃) X.xe s₂) X.xe s:=by
  refine thn (he pins s U H _ I h) λw s1 ⟨y,H1,I1,r1,q1⟩=>?_;refine thn (ho pins s1 U H1 v y u w _ I1 r r1 q1) λz s2 ⟨zv,H2,I2,r2,q2⟩=>?_;exact iz I2 hN hi hx r2 (λs3 I3=>⟨_,H2,I3,q2⟩) hf
 rcases l with⟨hk,hm⟩|⟨hk,c,hc,hcell⟩
 ·exact wpAny_loadName_local I.ok.kind hk hn hm go
 rcases hk with hk|hk
 ·exact wpAny_loadName_cell I.ok.kind hk hc hcell go
 rcases hx with k|k
 ·have:X.env.scope.names.lookup x=some .free:=hk;rw[k]at this;cases this
 have:X.env.scope.names.lookup x=some .free:=hk;rw[k]at this;cases this
def ipI (f:Int->Int->Int):TIp:=λx y H Q=>∃i j,x=.int i/\y=.int j/\Q (.int (f i j)) H
theorem zx:PIp X .Add (ipI λi j=>i+j):=by
 intro pins s U H x y v u Q I r1 r2 h;obtain⟨i,j,e1,e2,q⟩:=h;subst e1;subst e2;obtain⟨t,rfl⟩:=r1;obtain⟨t',rfl⟩:=r2;exact iadd_int ⟨.int _,H,I.tok _,⟨_,rfl⟩,q⟩
end
section
variable {X:Cx} {pos:Pos}
def yH (c:TT) (tb:TS):TS:=λD U H=>∃W:Nat->St->Hp->Prop,(∃m,W m U H)/\∀m U H,W m U H ->
 c U H λb H1=>if b=true then ∃N:St->Hp->Prop,(∀σ' H',N σ' H'->∃m',m'<m/\W m' σ' H')/\tb { D with nx:=N,ct:=N,bk:=D.nx } U H1 else D.nx U H1
theorem ge {c:Expr} {body:List Stmt} {tc:TT} {tb:TS} (hp:PassesOwn (model X.prog X.w) X.A X.env X.xe) (hc:PT X c tc) (hb:PSs X body tb):PS X (.While c body [] pos) (yH tc tb):=by
 intro pins s U H D I h;obtain⟨W,⟨m0,w0⟩,turn⟩:=h;refine wpAny_While (codeAny_whileLoop (λn s'=>∃σ' H',Inv X pins σ' H' s'/\W n σ' H') ?_ m0 ⟨U,H,I,w0⟩);rintro n s1 ⟨σ1,H1,I1,w1⟩;refine wpAny_passesOwn hp (thn (hc pins s1 σ1 H1 _ I1 (turn n σ1 H1 w1)) λb s2 ⟨H2,I2,q2⟩=>?_)
 cases b with
 | true =>
  obtain⟨N,hN,q2⟩:=q2;rw[Qs rfl];refine wpAny_passesOwn hp (thn (hb pins s2 σ1 H2 _ I2 q2) λf s3 q3=>?_)
  cases f with
  | next =>
   obtain⟨σ3,H3,I3,n3⟩:=q3;obtain⟨m',hm,w3⟩:=hN σ3 H3 n3;exact⟨m',hm,σ3,H3,I3,w3⟩
  | cont =>
   obtain⟨σ3,H3,I3,n3⟩:=q3;obtain⟨m',hm,w3⟩:=hN σ3 H3 n3;exact⟨m',hm,σ3,H3,I3,w3⟩
  | brk=>exact q3
  | ret v=>exact q3
 | false =>
 rw[Qo Qr];exact wpAny_execs_nil ⟨σ1,H2,I2,q2⟩
end
structure It where
 go:Nat->Hp->Prop
 yld:Nat->Hp->V->Hp->Prop
 stop:Nat->Hp->Prop
def fi (X:Cx) (pins:B1) (H:Hp) (b:Addr):Prop :=
 H b=none/\b≠X.env.locals/\b∉X.fs/\(b∈X.ex\/X.s₀.heap.objs.size<=b)/\(∀x c,X.env.cells.lookup x=some c->c≠b)/\∀p∈X.pn++pins,p.1≠b
theorem Inv.fpOk {pins:B1} {U:St} (I:Inv X pins U H s) (hb:s.heap.objs.size<=b) (hn:H' b=none):fi X pins H' b:=by
 refine⟨hn,Nat.ne_of_gt (QN I.lt hb),I.nofs hb,.inr (QJ I.sz hb),λx c e z=>?_,λp hp z=>?_⟩
 ·obtain⟨v,q⟩:=I.cell x c e;exact absurd (QN q.lt (by rw[z];exact hb)) (Zb _)
 exact absurd (QN (Qq (I.pin p hp).1) (by rw[z];exact hb)) (Zb _)
structure Turn (P:Program) (w:World) (K:PySem.W.Frag) (tg:Expr) (J:It) (fp:B3) (it:Addr) (tn:Nat->Heap->Prop):Prop where
 mem:it∈fp
 obj:∀i h,tn i h->∀b∈fp,∃o,h.get? b=some o/\∀v,o.data≠.cell v
 keep:∀i h h',tn i h->(∀b∈fp,∀o,h.get? b=some o->h'.get? b=some o)->tn i h'
 item:∀(X:Cx),X.prog=P->X.w=w->X.K=K->X.calm=true->∀(i:Nat) (pins:B1) (s:Shared) (U:St) (H:Hp) (E:B0),Inv X pins U H s->(∀b∈fp,fi X pins H b)->tn i s.heap->J.go i H ->
  wpAny (model P w) X.A (pyNext (.ref it)) (λr s1=>∃u,r=some u /\
   wpAny (model P w) X.A (letOwnedTupleGo tg (.ref it) u) (λ_ s2=>∃x H',Inv X pins U H' s2/\aL x u/\J.yld i H x H'/\tn (i+1) s2.heap/\∀b∈fp,H' b=none) E s1) E s
 done:∀(X:Cx),X.prog=P->X.w=w->X.K=K->X.calm=true->∀(i:Nat) (pins:B1) (s:Shared) (U:St) (H:Hp) (E:B0),Inv X pins U H s->(∀b∈fp,fi X pins H b)->tn i s.heap->J.stop i H ->
  wpAny (model P w) X.A (pyNext (.ref it)) (λr s1=>r=none/\Inv X pins U H s1) E s
 self:∀(A:Around) (i:Nat) (s:Shared) (Q:B0) (E:B0),tn i s.heap->Q (.ref it) s->wpAny (model P w) A (pyIter (.ref it)) Q E s
abbrev TI:=St->Hp->(It->Hp->Prop)->Prop
def PIE (X:Cx) (pins:B1) (U:St) (tg:Expr) (R:It->Hp->Prop) (itv:Value) (s2:Shared):Prop :=
 ∃(it:Addr) (fp:B3) (tn:Nat->Heap->Prop) (J:It) (H':Hp),itv=.ref it/\Inv X pins U H' s2/\Turn X.prog X.w X.K tg J fp it tn/\tn 0 s2.heap/\(∀b∈fp,fi X pins H' b)/\R J H'
def PI (X:Cx) (tg iter:Expr) (wi:TI):Prop :=
 ∀(pins:B1) (s:Shared) (U:St) (H:Hp) (R:It->Hp->Prop),Inv X pins U H s->wi U H R ->
  wpAny (model X.prog X.w) X.A (eval iter X.env) (λv s1=>wpAny (model X.prog X.w) X.A (pyIter v) (PIE X pins U tg R) X.xe s1) X.xe s
theorem nM {M:Model} {s:Shared} {o:Obj} {n:String} {vs:Array Value} {Q:Unit->Shared->Prop} (ho:s.heap.get? it=some o) (hc:o.cls=.type n) (hd:o.data=.fields vs)
  (hn:["enumerate", "zip", "dict_itemiterator", "dict_reverseitemiterator", "odict_iterator", "itertools.zip_longest", "itertools.pairwise"].contains n=false) (hQ:Q () s):wpAny M A (letOwnedTupleGo tg (.ref it) u) Q E s:=by
 unfold letOwnedTupleGo
 cases tg <;> first
  | exact Qf hQ
  | (cases u <;> first
    | exact Qf hQ
    |(refine Qa (wpAny_load ho ?_)
      rw[hc,hd];show wpAny M A (if (["enumerate", "zip", "dict_itemiterator", "dict_reverseitemiterator", "odict_iterator", "itertools.zip_longest", "itertools.pairwise"].contains n&&vs[0]?==some (rawInt _))=true then _ else _) Q E s;rw[Qo (by intro h;rw[hn,Bool.false_and]at h;cases h)]
      exact Qf hQ))
def Itl (K:PySem.W.Frag) (a:Addr):It :=
 ⟨λi H=>∃xs x,SqL K H a xs/\xs[i]?=some x,λi H x H'=>H'=H/\∀xs,SqL K H a xs->xs[i]?=some x,λi H=>∃xs,SqL K H a xs/\xs.length<=i⟩
def Itt (K:PySem.W.Frag) (a:Addr):It :=
 ⟨λi H=>∃xs x,SqT K H a xs/\xs[i]?=some x,λi H x H'=>H'=H/\∀xs,SqT K H a xs->xs[i]?=some x,λi H=>∃xs,SqT K H a xs/\xs.length<=i⟩
def Itr (lo:Int) (n:Nat):It:=⟨λi _=>i<n,λi H x H'=>H'=H/\x=.int (lo+i),λi _=>n<=i⟩
theorem turn_list {P:Program} {w:World} {K:PySem.W.Frag} (a it:Addr):Turn P w K tg (Itl K a) [it] it (λi h=>h.IsListIter it a i) where
 mem:=by simp
 obj:=λi h st b hb=>by
  have e:b=it:=by simpa using hb
  subst e;obtain⟨o,e,c,d⟩:=st;exact⟨o,e,λv z=>by rw[d]at z;cases z⟩
 keep:=λi h h' st k=>st.at λo e=>k it (by simp) o e
 item:=by
  intro X hP hw hK hc i pins s U H E I hf st hg;subst hP hw hK;obtain⟨xs,x,hq,hx⟩:=hg;obtain⟨its,rv,p,hz⟩:=I.list hq;obtain⟨u,hu,ru⟩:=rv.get hx;obtain⟨f0,f1,f2,f3,f4,f5⟩:=hf it (by simp);refine wpAny_pyNext_list_item st p.isList (x:=u) (by simpa using hu) λh' st' sb=>?_;have I1:Inv X pins U H { s with heap:=h' }:=I.turned (t':=s.toks) (λb o hb e=>(sb.2 b hb).trans e) f0 f1 f3 f4 f5;obtain⟨o,e,c,d⟩:=id st';exact⟨u,rfl,nM (s:={ s with heap:=h' }) e c d (by decide) ⟨x,H,I1,ru,⟨rfl,λys hy=>by rw[I.list_inj hy hq];exact hx⟩,st',λb hb=>(hf b hb).1⟩⟩
 done:=by
  intro X hP hw hK hc i pins s U H E I hf st hg;subst hP hw hK;obtain⟨xs,hq,hx⟩:=hg;obtain⟨its,rv,p,hz⟩:=I.list hq;obtain⟨f0,f1,f2,f3,f4,f5⟩:=hf it (by simp);have hl:=rv.length;exact wpAny_pyNext_list_end (I.ok.hd hc) st p.isList (by simp;omega) λh' eb=>⟨rfl,I.turned (t':=s.toks) (λb o hb e=>eb b o hb e) f0 f1 f3 f4 f5⟩
 self:=λ_ _ _ _ _ st h=>wpAny_pyIter_listiter st h
theorem oG {P:Program} {w:World} {K:PySem.W.Frag} (a it:Addr):Turn P w K tg (Itt K a) [it] it (λi h=>h.IsTupleIter it a i) where
 mem:=by simp
 obj:=λi h st b hb=>by
  have e:b=it:=by simpa using hb
  subst e;obtain⟨o,e,c,d⟩:=st;exact⟨o,e,λv z=>by rw[d]at z;cases z⟩
 keep:=λi h h' st k=>st.at λo e=>k it (by simp) o e
 item:=by
  intro X hP hw hK hc i pins s U H E I hf st hg;subst hP hw hK;obtain⟨xs,x,hq,hx⟩:=hg;obtain⟨its,rv,p,hz⟩:=I.tuple hq;obtain⟨u,hu,ru⟩:=rv.get hx;obtain⟨f0,f1,f2,f3,f4,f5⟩:=hf it (by simp);refine wpAny_pyNext_tuple_item st (show s.heap.IsTuple a its.toArray from p) (x:=u) (by simpa using hu) λh' st' sb=>?_;have I1:Inv X pins U H { s with heap:=h' }:=I.turned (t':=s.toks) (λb o hb e=>(sb.2 b hb).trans e) f0 f1 f3 f4 f5;obtain⟨o,e,c,d⟩:=id st';exact⟨u,rfl,nM (s:={ s with heap:=h' }) e c d (by decide) ⟨x,H,I1,ru,⟨rfl,λys hy=>by rw[I.tuple_inj hy hq];exact hx⟩,st',λb hb=>(hf b hb).1⟩⟩
 done:=by
  intro X hP hw hK hc i pins s U H E I hf st hg;subst hP hw hK;obtain⟨xs,hq,hx⟩:=hg;obtain⟨its,rv,p,hz⟩:=I.tuple hq;obtain⟨f0,f1,f2,f3,f4,f5⟩:=hf it (by simp);have hl:=rv.length;exact wpAny_pyNext_tuple_end (I.ok.hd hc) st (show s.heap.IsTuple a its.toArray from p) (by simp;omega) λh' eb=>⟨rfl,I.turned (t':=s.toks) (λb o hb e=>eb b o hb e) f0 f1 f3 f4 f5⟩
 self:=λ_ _ _ _ _ st h=>wpAny_pyIter_tupleiter st h
theorem oH {P:Program} {w:World} {K:PySem.W.Frag} (it:Addr) (lo:Int) (n:Nat):Turn P w K tg (Itr lo n) [it] it (λi h=>IsRangeIter h it (lo+(i:Nat)*1) ((n:Int)-(i:Nat)) 1) where
 mem:=by simp
 obj:=λi h st b hb=>by
  have e:b=it:=by simpa using hb
  subst e
  exact⟨_,st,λv z=>by
   have z':Data.fields _=Data.cell v:=z
   cases z'⟩
 keep:=λi h h' st k=>k it (by simp) _ st
 item:=by
  intro X hP hw hK hc i pins s U H E I hf st hg;subst hP hw hK;obtain⟨f0,f1,f2,f3,f4,f5⟩:=hf it (by simp);have W:=Walks.range (prog:=X.prog) (w:=X.w) (I.ok.hd hc) it lo 1 n;refine W.item i s _ _ hg st λv h' tk hv st' kk=>?_;obtain⟨t,rfl⟩:=hv;have I1:Inv X pins U H { s with heap:=h',toks:=tk }:=I.turned (λb o hb e=>kk b o (by simpa using hb) e) f0 f1 f3 f4 f5;refine⟨_,rfl,nM (s:={ s with heap:=h',toks:=tk }) (n := "range_iterator") st' rfl rfl (by decide) ⟨.int (lo+i),H,I1,⟨t,?_⟩,⟨rfl,rfl⟩,st',λb hb=>(hf b hb).1⟩⟩;rw[Int.mul_one]
 done:=by
  intro X hP hw hK hc i pins s U H E I hf st hg;subst hP hw hK;obtain⟨f0,f1,f2,f3,f4,f5⟩:=hf it (by simp);exact wpAny_pyNext_range_end (I.ok.hd hc) st (by have:n<=i:=hg;omega) λh' eb=>⟨rfl,I.turned (t':=s.toks) (λb o hb e=>eb b o hb e) f0 f1 f3 f4 f5⟩
 self:=λ_ _ _ _ _ st h=>wpAny_pyIter_rangeiter st h
section
variable {X:Cx} {tg:Expr}
def nK (K:PySem.W.Frag) (tl:TE):TI:=λU H R=>tl U H λx H1=>∃a,x=.ref a/\(∃xs,SqL K H1 a xs)/\R (Itl K a) H1
def AT (K:PySem.W.Frag) (tl:TE):TI:=λU H R=>tl U H λx H1=>∃a,x=.ref a/\(∃xs,SqT K H1 a xs)/\R (Itt K a) H1
theorem bi {l:Expr} {tl:TE} (hl:PE X l tl):PI X tg l (nK X.K tl):=by
 intro pins s U H R I h;refine thn (hl pins s U H _ I h) λv s1 ⟨x,H1,I1,r1,q1⟩=>?_;obtain⟨a,e,⟨xs,hq⟩,q⟩:=q1;subst e;cases r1;obtain⟨its,rv,p,hz⟩:=I1.list hq;refine wpAny_pyIter_list p.isList ?_;refine⟨s1.heap.objs.size,[s1.heap.objs.size],_,_,H1,rfl,I1.kept (t':=s1.toks) λb o e=>Qc _ e,turn_list a _,⟨_,Qt _ rfl,rfl,rfl⟩,λb hb=>?_,q⟩;have e:b=s1.heap.objs.size:=by simpa using hb
 subst e;exact I1.fpOk (Qg _) (I1.hok.fresh (Qg _))
theorem yW {l:Expr} {tl:TE} (hl:PE X l tl):PI X tg l (AT X.K tl):=by
 intro pins s U H R I h;refine thn (hl pins s U H _ I h) λv s1 ⟨x,H1,I1,r1,q1⟩=>?_;obtain⟨a,e,⟨xs,hq⟩,q⟩:=q1;subst e;cases r1;obtain⟨its,rv,p,hz⟩:=I1.tuple hq;refine wpAny_pyIter_tuple (show s1.heap.IsTuple a its.toArray from p) ?_;refine⟨s1.heap.objs.size,[s1.heap.objs.size],_,_,H1,rfl,I1.kept (t':=s1.toks) λb o e=>Qc _ e,oG a _,⟨_,Qt _ rfl,rfl,rfl⟩,λb hb=>?_,q⟩;have e:b=s1.heap.objs.size:=by simpa using hb
 subst e;exact I1.fpOk (Qg _) (I1.hok.fresh (Qg _))
variable {s:Shared} {pins pl:B1}
theorem ur {U:St} {H:Hp} {R:It->Hp->Prop} {E:B0} {lo hi:Int} {t u v:Tok} {tk:Nat} (I:Inv X pins U H s) (h1:-(2 ^ 62)<=lo) (h2:lo<2 ^ 62) (h3:-(2 ^ 62)<=hi) (h4:hi<2 ^ 62)
  (q:R (Itr lo (hi-lo).toNat) H):wpAny (model X.prog X.w) X.A (pyIter (.ref s.heap.objs.size)) (PIE X pins U tg R) E { s with heap:=s.heap.push { cls:=.type "range", data:=.fields #[.int lo t,.int hi u,.int 1 v] },toks:=tk }:=by
 refine wpAny_pyIter_range (IsRange.new ..) (small_one h1 h2 h3 h4) ?_;have I1:Inv X pins U H { s with heap:=s.heap.push { cls:=.type "range", data:=.fields #[.int lo t,.int hi u,.int 1 v] },toks:=tk }:=I.kept λb o e=>Qc _ e
 refine⟨(s.heap.push { cls:=.type "range", data:=.fields #[.int lo t,.int hi u,.int 1 v] }).objs.size,[(s.heap.push { cls:=.type "range", data:=.fields #[.int lo t,.int hi u,.int 1 v] }).objs.size],_,_,H,rfl,
  I1.kept (t':=tk) λb o e=>Qc _ e,oH _ lo (hi-lo).toNat,?_,λb hb=>?_,q⟩
 ·have e1:lo+((0:Nat):Int)*1=lo:=by simp
  have e2:(((hi-lo).toNat:Nat):Int)-((0:Nat):Int)=Builtin.Range.rangeSize lo hi 1:=by rw[rangeSize_one];split <;> omega
  show IsRangeIter _ _ (lo+((0:Nat):Int)*1) ((((hi-lo).toNat:Nat):Int)-((0:Nat):Int)) 1;rw[e1,e2];exact Qt _ rfl
 have e:b=(s.heap.push { cls:=.type "range", data:=.fields #[.int lo t,.int hi u,.int 1 v] }).objs.size:=by simpa using hb
 subst e;exact I1.fpOk (Qg _) (I1.hok.fresh (Qg _))
def yp (ta:TA):TI:=λU H R=>ta U H λvs H1=>∃j:Int,vs=[.int j]/\-(2 ^ 62)<=j/\j<2 ^ 62/\R (Itr 0 j.toNat) H1
theorem dU {a:Expr} {ta:TA} {p pos:Pos} (hg:Gl X "range") (hm:X.mg "range" = none) (ha:PA X [a] ta) (hs:starEach [a] X.env=[(false,eval a X.env)]:=by rfl):PI X tg (.Call (.Name "range" p) [a] [] pos) (yp ta):=by
 intro pins s U H R I h;refine Call_ (cL I hg hm boot_range (Xd (thn (ha pos pins s U H _ I h) λus s1 ⟨vs,H1,I1,r1,q1⟩=>?_) hs rfl));obtain⟨j,e,q1,q2,q⟩:=q1;subst e
 cases r1 with
 | cons r rr =>
 cases rr;obtain⟨t,rfl⟩:=r;exact call_range_1 (ur I1 (by omega) (by omega) q1 q2 (by simpa using q))
def Ab (wi:TI) (g:TG) (tb:TS):TS:=λD U H=>wi U H λJ H1=>∃W:Nat->Nat->St->Hp->Prop,(∃m,W 0 m U H1)/\∀i m U H,W i m U H ->
 (J.stop i H/\D.nx U H)\/(J.go i H/\∃N:St->Hp->Prop,(∀σ' H',N σ' H'->∃m',m'<m/\W (i+1) m' σ' H')/\∀x H',J.yld i H x H'->g x U H' λσ2 H2=>tb { D with nx:=N,ct:=N,bk:=D.nx } σ2 H2)
def gN (fp:B3) (h:Heap):B1:=fp.filterMap λb=>(h.get? b).map λo=>(b,o)
variable {fp:B3}
theorem cJ {h:Heap} {b:Addr} {o:Obj} (hb:b∈fp) (e:h.get? b=some o):(b,o)∈gN fp h:=List.mem_filterMap.mpr ⟨b,hb,by rw[e];rfl⟩
theorem sF {h:Heap} {p:Addr × Obj} (hp:p∈gN fp h):p.1∈fp/\h.get? p.1=some p.2:=by
 obtain⟨b,hb,e⟩:=List.mem_filterMap.mp hp
 cases q:h.get? b with
 | none=>rw[q]at e;cases e
 | some o =>
 rw[q]at e;have e':(b,o)=p:=QF e;subst e';exact⟨hb,q⟩
theorem Inv.pinned {U:St} {H:Hp} (I:Inv X pins U H s) (hf:∀b∈fp,fi X pins H b) (ho:∀b∈fp,∃o,s.heap.get? b=some o/\∀v,o.data≠.cell v):Inv X (pins++gN fp s.heap) U H s :=
 I.pins_of λp hp=>(Qz.mp hp).elim (λz=>I.pin p (QH _ z)) λz=>by
  obtain⟨hb,e⟩:=sF z;obtain⟨f0,f1,f2,_⟩:=hf p.1 hb;obtain⟨o,e',d⟩:=ho p.1 hb;rw[e]at e';cases e';exact⟨e,f0,f1,f2,d⟩
theorem Inv.unpinned {U:St} {H:Hp} (I:Inv X (pins++pl) U H s):Inv X pins U H s:=I.pins_of λp hp=>I.pin p (QH _ (Xb _ hp))
theorem ps_for {iter:Expr} {body:List Stmt} {wi:TI} {g:TG} {tb:TS} {pos:Pos} (hp:PassesOwn (model X.prog X.w) X.A X.env X.xe) (hc:X.calm=true) (hi:PI X tg iter wi) (hg:PG X tg g) (hb:PSs X body tb)
  (hs:∀x,foldedSetIterable iter X.env x=pure x:=by intro _;rfl):PS X (.For tg iter body [] pos) (Ab wi g tb):=by
 intro pins s U H D I h;refine wpAny_For (thn (hi pins s U H _ I h) λv s1 h1=>thn h1 λitv s2 h2=>?_) hs;obtain⟨it,fp,tn,J,H2,e,I2,T,st2,f2,W,⟨m0,w0⟩,turn⟩:=h2;subst e
 -- what stays true of the iterator's objects through the loop
 have stat:∀{H':Hp},(∀b∈fp,H' b=none)->∀b∈fp,fi X pins H' b:=λhn b hb=>⟨hn b hb,(f2 b hb).2⟩;refine codeAny_forLoop_any (λn s'=>∃i σ' H',Inv X pins σ' H' s'/\tn i s'.heap/\(∀b∈fp,H' b=none)/\W i n σ' H') ?_ m0 ⟨0,U,H2,I2,st2,λb hb=>(f2 b hb).1,w0⟩;rintro n s3 ⟨i,σ3,H3,I3,st3,fr3,w3⟩;rcases turn i n σ3 H3 w3 with⟨stop,qn⟩|⟨go,N,hN,step⟩
 ·refine wpAny_passesOwn hp (thn (T.done X rfl rfl rfl hc i pins s3 σ3 H3 X.xe I3 (stat fr3) st3 stop) λr s4 ⟨hr,I4⟩=>?_);subst hr;exact wpAny_execs_nil ⟨σ3,H3,I4,qn⟩
 refine wpAny_passesOwn hp (thn (T.item X rfl rfl rfl hc i pins s3 σ3 H3 X.xe I3 (stat fr3) st3 go) λr s4 ⟨u,hr,h4⟩=>?_);subst hr;refine wpAny_passesOwn hp (thn h4 λ_ s5 ⟨x,H5,I5,r5,y5,st5,fr5⟩=>?_);have I5':=I5.pinned (stat fr5) (T.obj _ _ st5);refine wpAny_passesOwn hp (thn (hg _ s5 σ3 H5 x u _ I5' r5 (step x H5 y5)) λ_ s6 ⟨σ6,H6,I6,q6⟩=>?_);refine wpAny_passesOwn hp (thn (hb _ s6 σ6 H6 _ I6 q6) λf s7 q7=>?_)
 have again:∀{σ7:St} {H7:Hp},Inv X (pins++gN fp s5.heap) σ7 H7 s7->N σ7 H7->∃m,m<n/\∃i σ' H',Inv X pins σ' H' s7/\tn i s7.heap/\(∀b∈fp,H' b=none)/\W i m σ' H':=λ{σ7 H7} I7 n7=>by
  obtain⟨m',hm,w7⟩:=hN σ7 H7 n7;refine⟨m',hm,i+1,σ7,H7,I7.unpinned,T.keep _ _ _ st5 λb hb o e=>(I7.pin (b,o) (QH _ (QH _ (cJ hb e)))).1,λb hb=>?_,w7⟩;obtain⟨o,e,d⟩:=T.obj _ _ st5 b hb;exact(I7.pin (b,o) (QH _ (QH _ (cJ hb e)))).2.1
 cases f with
 | next=>obtain⟨σ7,H7,I7,n7⟩:=q7;exact again I7 n7
 | cont=>obtain⟨σ7,H7,I7,n7⟩:=q7;exact again I7 n7
 | brk=>obtain⟨σ7,H7,I7,q7⟩:=q7;exact⟨σ7,H7,I7.unpinned,q7⟩
 | ret v=>obtain⟨x7,σ7,H7,I7,r7,q7⟩:=q7;exact⟨x7,σ7,H7,I7.unpinned,r7,q7⟩
end
theorem cE {K:PySem.W.Frag} {xs:List V} {g:TG} {tb:TS} {D:Ends} {U:St} (Pv:Nat->St->Hp->Prop) (h0:Pv 0 U H) (hl:∀i U H,i<=xs.length->Pv i U H->SqL K H a xs)
  (hs:∀i x U H,xs[i]?=some x->Pv i U H->g x U H λσ2 H2=>tb { D with nx:=Pv (i+1),ct:=Pv (i+1),bk:=D.nx } σ2 H2) (hd:∀U H,Pv xs.length U H->D.nx U H) :
  ∃W:Nat->Nat->St->Hp->Prop,(∃m,W 0 m U H)/\∀i m U H,W i m U H ->
   ((Itl K a).stop i H/\D.nx U H)\/((Itl K a).go i H/\∃N:St->Hp->Prop,(∀σ' H',N σ' H'->∃m',m'<m/\W (i+1) m' σ' H')/\∀x H',(Itl K a).yld i H x H'->g x U H' λσ2 H2=>tb { D with nx:=N,ct:=N,bk:=D.nx } σ2 H2):=by
 refine⟨λi m U H=>m=xs.length-i/\i<=xs.length/\Pv i U H,⟨xs.length,by simp,QR _,h0⟩,?_⟩;rintro i m U H ⟨rfl,hi,p⟩;have q:=hl i U H hi p;by_cases hlt:i<xs.length
 ·refine .inr ⟨⟨xs,xs[i],q,by simp[hlt]⟩,Pv (i+1),λσ' H' p'=>⟨xs.length-(i+1),by omega,rfl,hlt,p'⟩,λx H' y=>?_⟩;obtain⟨e,y⟩:=y;subst e;exact hs i x U _ (y xs q) p
 have e:i=xs.length:=by omega
 subst e;exact .inl ⟨⟨xs,q,Qg _⟩,hd U H p⟩
theorem gS {lo:Int} {n:Nat} {g:TG} {tb:TS} {D:Ends} {U:St} (Pv:Nat->St->Hp->Prop) (h0:Pv 0 U H)
  (hs:∀i U H,i<n->Pv i U H->g (.int (lo+i)) U H λσ2 H2=>tb { D with nx:=Pv (i+1),ct:=Pv (i+1),bk:=D.nx } σ2 H2) (hd:∀U H,Pv n U H->D.nx U H) :
  ∃W:Nat->Nat->St->Hp->Prop,(∃m,W 0 m U H)/\∀i m U H,W i m U H ->
   ((Itr lo n).stop i H/\D.nx U H)\/((Itr lo n).go i H/\∃N:St->Hp->Prop,(∀σ' H',N σ' H'->∃m',m'<m/\W (i+1) m' σ' H')/\∀x H',(Itr lo n).yld i H x H'->g x U H' λσ2 H2=>tb { D with nx:=N,ct:=N,bk:=D.nx } σ2 H2):=by
 refine⟨λi m U H=>m=n-i/\i<=n/\Pv i U H,⟨n,by simp,QR _,h0⟩,?_⟩;rintro i m U H ⟨rfl,hi,p⟩;by_cases hlt:i<n
 ·refine .inr ⟨hlt,Pv (i+1),λσ' H' p'=>⟨n-(i+1),by omega,rfl,hlt,p'⟩,λx H' y=>?_⟩;obtain⟨e,y⟩:=y;subst e y;exact hs i U _ hlt p
 have e:i=n:=by omega
 subst e;exact .inl ⟨Qg _,hd U H p⟩
abbrev R2:=V->V->Hp->VK->Prop
def OpR (X:Cx) (f:Value->Value->Sem Value) (r:R2):Prop :=
 ∀(pins:B1) (s:Shared) (U:St) (H:Hp) (x y:V) (v u:Value) (Q:VK),Inv X pins U H s->aL x v->aL y u->r x y H Q ->
  wpAny (model X.prog X.w) X.A (f v u) (EP X pins U Q) X.xe s
def UnR (X:Cx) (f:Value->Sem Value) (r:V->Hp->VK->Prop):Prop :=
 ∀(pins:B1) (s:Shared) (U:St) (H:Hp) (x:V) (v:Value) (Q:VK),Inv X pins U H s->aL x v->r x H Q ->
  wpAny (model X.prog X.w) X.A (f v) (EP X pins U Q) X.xe s
def dG (X:Cx) (f:Value) (r:List V->Hp->VK->Prop):Prop :=
 ∀(pins:B1) (s:Shared) (U:St) (H:Hp) (xs:List V) (us:List Value) (Q:VK),Inv X pins U H s->aQ xs us->r xs H Q ->
  wpAny (model X.prog X.w) X.A (call f us) (EP X pins U Q) X.xe s
def tOp (r:R2) (ta tb:TE):TE:=λU H Q=>ta U H λx H1=>tb U H1 λy H2=>r x y H2 Q
def tUn (r:V->Hp->VK->Prop) (ta:TE):TE:=λU H Q=>ta U H λx H1=>r x H1 Q
def rI (C:Int->Int->Prop) (g:Int->Int->V):R2:=λx y H Q=>∃i j,x=.int i/\y=.int j/\C i j/\Q (g i j) H
def rI0 (g:Int->Int->V):R2:=λx y H Q=>∃i j,x=.int i/\y=.int j/\Q (g i j) H
def rU (g:Int->V):V->Hp->VK->Prop:=λx H Q=>∃i,x=.int i/\Q (g i) H
section
variable {X:Cx} {a b c:Expr} {ta tb tc:TE} {pos:Pos}
variable {f:Value->Value->Sem Value}
theorem zL (ha:PE X a ta) (hb:PE X b tb) {pins:B1} {s:Shared} {U:St} {H:Hp} {R:V->V->Hp->Prop} (I:Inv X pins U H s)
  (h:ta U H λx H1=>tb U H1 λy H2=>R x y H2) {Q:B0}
  (hf:∀v u s2 x y H2,Inv X pins U H2 s2->aL x v->aL y u->R x y H2->wpAny (model X.prog X.w) X.A (f v u) Q X.xe s2) :
  wpAny (model X.prog X.w) X.A (eval a X.env) (λv s₁=>wpAny (model X.prog X.w) X.A (eval b X.env) (λu s₂=>wpAny (model X.prog X.w) X.A (f v u) Q X.xe s₂) X.xe s₁) X.xe s:=by
 refine thn (ha pins s U H _ I h) λv s1 ⟨x,H1,I1,r1,q1⟩=>?_;refine thn (hb pins s1 U H1 _ I1 q1) λu s2 ⟨y,H2,I2,r2,q2⟩=>?_;exact hf v u s2 x y H2 I2 r1 r2 q2
theorem aO {op:Operator} {r:R2} (ho:OpR X (binaryOp op) r) (ha:PE X a ta) (hb:PE X b tb):PE X (.BinOp a op b pos) (tOp r ta tb):=by
 intro pins s U H Q I h;exact wpAny_BinOp (zL ha hb I h λv u s2 x y H2 I2 rx ry q=>ho pins s2 U H2 x y v u Q I2 rx ry q)
theorem mO {op:UnaryOp} {r:V->Hp->VK->Prop} (ho:UnR X (unaryOp op) r) (ha:PE X a ta):PE X (.UnaryOp op a pos) (tUn r ta):=by
 intro pins s U H Q I h;exact UnaryOp_ (thn (ha pins s U H _ I h) λv s1 ⟨x,H1,I1,r1,q1⟩=>ho pins s1 U H1 x v Q I1 r1 q1)
theorem opI {C:Int->Int->Prop} {g:Int->Int->Int}
  (rule:∀(i j:Int) (t u:Tok) (s:Shared) (Q:B0) (E:B0),C i j->Q (.int (g i j) s.toks) { s with toks:=s.toks+1 }->wpAny (model X.prog X.w) X.A (f (.int i t) (.int j u)) Q E s) :
  OpR X f (rI C λi j=>.int (g i j)):=by
 intro pins s U H x y v u Q I rx ry h;obtain⟨i,j,rfl,rfl,hc,q⟩:=h;obtain⟨t,rfl⟩:=rx;obtain⟨t',rfl⟩:=ry;exact rule i j t t' s _ _ hc ⟨.int (g i j),H,I.tok _,⟨_,rfl⟩,q⟩
theorem Ap {g:Int->Int->Int}
  (rule:∀(i j:Int) (t u:Tok) (s:Shared) (Q:B0) (E:B0),Q (.int (g i j) s.toks) { s with toks:=s.toks+1 }->wpAny (model X.prog X.w) X.A (f (.int i t) (.int j u)) Q E s) :
  OpR X f (rI0 λi j=>.int (g i j)):=by
 intro pins s U H x y v u Q I rx ry h;obtain⟨i,j,rfl,rfl,q⟩:=h;obtain⟨t,rfl⟩:=rx;obtain⟨t',rfl⟩:=ry;exact rule i j t t' s _ _ ⟨.int (g i j),H,I.tok _,⟨_,rfl⟩,q⟩
theorem wD {g:Int->Int->Bool}
  (rule:∀(i j:Int) (t u:Tok) (s:Shared) (Q:B0) (E:B0),Q (.bool (g i j)) s->wpAny (model X.prog X.w) X.A (f (.int i t) (.int j u)) Q E s) :
  OpR X f (rI0 λi j=>.bl (g i j)):=by
 intro pins s U H x y v u Q I rx ry h;obtain⟨i,j,rfl,rfl,q⟩:=h;obtain⟨t,rfl⟩:=rx;obtain⟨t',rfl⟩:=ry;exact rule i j t t' s _ _ ⟨.bl (g i j),H,I,rfl,q⟩
def Bo (i j:Int):Prop:=0<j/\j<1073741824
def Bn (i j:Int):Prop:=0<=j/\j<=1000000/\i.natAbs<2 ^ 64
def zR (i j:Int):Prop:=(-(2 ^ 64)<i/\i<2 ^ 64)\/(-(2 ^ 64)<j/\j<2 ^ 64)
theorem zR.ok {i j:Int} (h:zR i j):IntMulOk i j:=by
 rcases h with⟨h1,h2⟩|⟨h1,h2⟩
 ·exact .of_left (intBits_le_64 h1 h2)
 exact .of_right (intBits_le_64 h1 h2)
theorem cD:OpR X (binaryOp .Add) (rI0 λi j=>.int (i+j)):=Ap λ_ _ _ _ _ _ _ q=>add_int q
theorem fU:OpR X (binaryOp .Sub) (rI0 λi j=>.int (i-j)):=Ap λ_ _ _ _ _ _ _ q=>sub_int q
theorem e_:OpR X (binaryOp .Mult) (rI zR λi j=>.int (i*j)):=opI λ_ _ _ _ _ _ _ hc q=>mul_int q hc.ok
theorem qV:OpR X (binaryOp .FloorDiv) (rI Bo λi j=>.int (i / j)):=opI λi j _ _ _ _ _ hc q=>by
 have h1:(0:Int)<j:=hc.1;have h2:j<1073741824:=hc.2;exact floordiv_int (by omega) (by rw[Int.fdiv_eq_ediv_of_nonneg i (by omega)];exact q) (.inl (PyProof.noPylong_small (by omega)))
theorem gO:OpR X (binaryOp .Mod) (rI (λ_ j=>0<j) λi j=>.int (i % j)):=opI λi j _ _ _ _ _ hc q=>by
 have h1:(0:Int)<j:=hc;exact mod_int' (by omega) (by rw[Int.fmod_eq_emod_of_nonneg i (by omega)];exact q)
theorem uP:OpR X (binaryOp .Pow) (rI Bn λi j=>.int (i ^ j.toNat)):=opI λ_ _ _ _ _ _ _ hc q=>pow_int_small hc.1 hc.2.1 hc.2.2 q
theorem unI {f:Value->Sem Value} {g:Int->Int}
  (rule:∀(i:Int) (t:Tok) (s:Shared) (Q:B0) (E:B0),Q (.int (g i) s.toks) { s with toks:=s.toks+1 }->wpAny (model X.prog X.w) X.A (f (.int i t)) Q E s) :
  UnR X f (rU λi=>.int (g i)):=by
 intro pins s U H x v Q I rx h;obtain⟨i,rfl,q⟩:=h;obtain⟨t,rfl⟩:=rx;exact rule i t s _ _ ⟨.int (g i),H,I.tok _,⟨_,rfl⟩,q⟩
theorem iu:UnR X (unaryOp .USub) (rU λi=>.int (-i)):=unI λ_ _ _ _ _ q=>neg_int q
end
noncomputable def uk:V->V->Bool
 | .non,.non=>true|.non,.int _=>true|.int _,.non=>true|.non,.bl _=>true|.bl _,.non=>true|.non,.str _=>true|.str _,.non=>true
 | .int _,.int _=>true|.bl _,.bl _=>true|.str _,.str _=>true|.byt _,.byt _=>true
 | .int _,.str _=>true|.str _,.int _=>true|.bl _,.str _=>true|.str _,.bl _=>true
 | _,_=>false
def rEq:R2:=λx y H Q=>uk x y=true/\Q (.bl (decide (x=y))) H
def rNe:R2:=λx y H Q=>uk x y=true/\Q (.bl (!decide (x=y))) H
theorem rE {i j:Int}:decide (V.int i=V.int j)=(i==j):=by
 rw[XR];simp
theorem vX {i j:Bool}:decide (V.bl i=V.bl j)=(i==j):=by
 rw[XR];simp
theorem rD {i j:Str}:decide (V.str i=V.str j)=(i==j):=by
 rw[XR];simp
theorem rF {i j:Array UInt8}:decide (V.byt i=V.byt j)=(i.toList==j.toList):=by
 rw[XR];cases i;cases j;simp
section
variable {X:Cx} {a b c:Expr} {ta tb tc:TE} {pos:Pos}
theorem bc {pins:B1} {U:St} {H:Hp} {s:Shared} {Q:VK} {k k':Bool} (I:Inv X pins U H s) (q:Q (.bl k) H) (e:k=k'):EP X pins U Q (.bool k') s:=by
 subst e;exact⟨.bl k,H,I,rfl,q⟩
theorem cC:OpR X (compareOp .Eq) rEq:=by
 intro pins s U H x y v u Q I rx ry h;obtain⟨hs,q⟩:=h
 cases x with
 | non =>
  cases rx
  cases y with
  | non=>cases ry;exact PySem.EqNone.eq_none_none (bc I q (by simp))
  | bl j=>cases ry;exact PySem.EqNone.eq_none_bool (bc I q (by simp))
  | int j=>obtain⟨t',rfl⟩:=ry;exact PySem.EqNone.eq_none_int (bc I q (by simp))
  | str j=>obtain⟨t',rfl⟩:=ry;exact PySem.EqNone.eq_none_str (bc I q (by simp))
  | _=>exact absurd (show false=true from hs) Qr
 | bl i =>
  cases rx
  cases y with
  | non=>cases ry;exact PySem.EqNone.eq_bool_none (bc I q (by simp))
  | bl j=>cases ry;exact eq_bool (bc I q vX)
  | str j=>obtain⟨t',rfl⟩:=ry;exact PySem.EqMixed.eq_bool_str (bc I q (by simp))
  | _=>exact absurd (show false=true from hs) Qr
 | int i =>
  obtain⟨t,rfl⟩:=rx
  cases y with
  | non=>cases ry;exact PySem.EqNone.eq_int_none (bc I q (by simp))
  | int j=>obtain⟨t',rfl⟩:=ry;exact eq_int (bc I q rE)
  | str j=>obtain⟨t',rfl⟩:=ry;exact PySem.EqMixed.eq_int_str (bc I q (by simp))
  | _=>exact absurd (show false=true from hs) Qr
 | str i =>
  obtain⟨t,rfl⟩:=rx
  cases y with
  | non=>cases ry;exact PySem.EqNone.eq_str_none (bc I q (by simp))
  | bl j=>cases ry;exact PySem.EqMixed.eq_str_bool (bc I q (by simp))
  | int j=>obtain⟨t',rfl⟩:=ry;exact PySem.EqMixed.eq_str_int (bc I q (by simp))
  | str j=>obtain⟨t',rfl⟩:=ry;exact eq_str (bc I q rD)
  | _=>exact absurd (show false=true from hs) Qr
 | byt i =>
  obtain⟨t,rfl⟩:=rx
  cases y with
  | byt j=>obtain⟨t',rfl⟩:=ry;exact PySem.W.eq_bytes (bc I q rF)
  | _=>exact absurd (show false=true from hs) Qr
 | _=>cases y <;> exact absurd (show false=true from hs) Qr
theorem iQ:OpR X (compareOp .NotEq) rNe:=by
 intro pins s U H x y v u Q I rx ry h;obtain⟨hs,q⟩:=h
 cases x with
 | non =>
  cases rx
  cases y with
  | non=>cases ry;exact PySem.EqNone.ne_none_none (bc I q (by simp))
  | bl j=>cases ry;exact PySem.EqNone.ne_none_bool (bc I q (by simp))
  | int j=>obtain⟨t',rfl⟩:=ry;exact PySem.EqNone.ne_none_int (bc I q (by simp))
  | str j=>obtain⟨t',rfl⟩:=ry;exact PySem.EqNone.ne_none_str (bc I q (by simp))
  | _=>exact absurd (show false=true from hs) Qr
 | bl i =>
  cases rx
  cases y with
  | non=>cases ry;exact PySem.EqNone.ne_bool_none (bc I q (by simp))
  | bl j=>cases ry;exact ne_bool (bc I q (congrArg not vX))
  | str j=>obtain⟨t',rfl⟩:=ry;exact PySem.EqMixed.ne_bool_str (bc I q (by simp))
  | _=>exact absurd (show false=true from hs) Qr
 | int i =>
  obtain⟨t,rfl⟩:=rx
  cases y with
  | non=>cases ry;exact PySem.EqNone.ne_int_none (bc I q (by simp))
  | int j=>obtain⟨t',rfl⟩:=ry;exact ne_int (bc I q (congrArg not rE))
  | str j=>obtain⟨t',rfl⟩:=ry;exact PySem.EqMixed.ne_int_str (bc I q (by simp))
  | _=>exact absurd (show false=true from hs) Qr
 | str i =>
  obtain⟨t,rfl⟩:=rx
  cases y with
  | non=>cases ry;exact PySem.EqNone.ne_str_none (bc I q (by simp))
  | bl j=>cases ry;exact PySem.EqMixed.ne_str_bool (bc I q (by simp))
  | int j=>obtain⟨t',rfl⟩:=ry;exact PySem.EqMixed.ne_str_int (bc I q (by simp))
  | str j=>obtain⟨t',rfl⟩:=ry;exact ne_str (bc I q (congrArg not rD))
  | _=>exact absurd (show false=true from hs) Qr
 | byt i =>
  obtain⟨t,rfl⟩:=rx
  cases y with
  | byt j=>obtain⟨t',rfl⟩:=ry;exact PySem.W.ne_bytes (bc I q (congrArg not rF))
  | _=>exact absurd (show false=true from hs) Qr
 | _=>cases y <;> exact absurd (show false=true from hs) Qr
theorem jU:OpR X (compareOp .Lt) (rI0 λi j=>.bl (decide (i<j))):=wD λ_ _ _ _ _ _ _ q=>lt_int q
theorem mU:OpR X (compareOp .LtE) (rI0 λi j=>.bl (decide (i<=j))):=wD λ_ _ _ _ _ _ _ q=>le_int q
theorem iR:OpR X (compareOp .Gt) (rI0 λi j=>.bl (decide (j<i))):=wD λ_ _ _ _ _ _ _ q=>gt_int q
theorem yh:OpR X (compareOp .GtE) (rI0 λi j=>.bl (decide (j<=i))):=wD λ_ _ _ _ _ _ _ q=>ge_int q
theorem sj:OpR X (compareOp .In) (λx y H Q=>∃i j,x=.str i/\y=.str j/\Q (.bl (!(Builtin.Str.occurrences j i 0 j.length 1).isEmpty)) H):=by
 intro pins s U H x y v u Q I rx ry h;obtain⟨i,j,rfl,rfl,q⟩:=h;obtain⟨t,rfl⟩:=rx;obtain⟨t',rfl⟩:=ry;exact in_str (bc I q rfl)
theorem wB:OpR X (compareOp .IsNot) (λx y H Q=>y=.non/\Q (.bl (!decide (x=.non))) H):=by
 intro pins s U H x y v u Q I rx ry h;obtain⟨rfl,q⟩:=h;cases ry;refine isnot_none_gen (bc I q ?_)
 cases x <;> first
  | (cases rx;rfl)
  | (obtain⟨t,rfl⟩:=rx;rfl)
variable {op op':CmpOp}
theorem aF (b:Expr) (h:op≠.In:=by decide) (h2:op≠.NotIn:=by decide):behindInMarks op b=false:=by
 have e1:(op==CmpOp.In)=false:=by cases op <;> first|rfl|exact absurd rfl h
 have e2:(op==CmpOp.NotIn)=false:=by cases op <;> first|rfl|exact absurd rfl h2
 cases b <;> simp[behindInMarks,e1,e2]
variable {r r':R2}
theorem bn (ho:OpR X (compareOp op) r) (ha:PE X a ta) (hb:PE X b tb) (hm:behindInMarks op b=false):PE X (.Compare a [op] [b] pos) (tOp r ta tb):=by
 intro pins s U H Q I h;exact wpAny_Compare1 (zL ha hb I h λv u s2 x y H2 I2 rx ry q=>ho pins s2 U H2 x y v u Q I2 rx ry q) hm
def tO (t:TE):TT:=λU H Q=>t U H λx H'=>∃k,x=.bl k/\Q k H'
theorem aC (ho:OpR X (compareOp op) r) (ha:PE X a ta) (hb:PE X b tb) (hm:behindInMarks op b=false):PT X (.Compare a [op] [b] pos) (tO (tOp r ta tb)):=by
 intro pins s U H Q I h
 refine wpAny_isTrue_Compare1 (thn (ha pins s U H _ I h) λv s1 ⟨x,H1,I1,r1,q1⟩=>thn (hb pins s1 U H1 _ I1 q1) λu s2 ⟨y,H2,I2,r2,q2⟩ =>
  thn (ho pins s2 U H2 x y v u _ I2 r1 r2 q2) λc s3 ⟨z,H3,I3,r3,k,e,q3⟩=>?_) hm
 subst e;cases r3;exact XW ⟨H3,I3,q3⟩
def oM (r r':R2) (ta tb tc:TE):TE:=λU H Q=>ta U H λx H1=>tb U H1 λy H2=>r x y H2 λz H3=>∃k,z=.bl k /\
 (if k=true then tc U H3 λw' H4=>r' y w' H4 Q else Q (.bl false) H3)
theorem mS (ho:OpR X (compareOp op) r) (ho':OpR X (compareOp op') r') (ha:PE X a ta) (hb:PE X b tb) (hc:PE X c tc)
  (hm:lastMarks [op,op'] [b,c]=false:=by with_unfolding_all rfl):PE X (.Compare a [op,op'] [b,c] pos) (oM r r' ta tb tc):=by
 intro pins s U H Q I h
 refine Compare_chain (thn (ha pins s U H _ I h) λv s1 ⟨x,H1,I1,r1,q1⟩=>chain_link (thn (hb pins s1 U H1 _ I1 q1) λu s2 ⟨y,H2,I2,r2,q2⟩ =>
  thn (ho pins s2 U H2 x y v u _ I2 r1 r2 q2) λd s3 ⟨z,H3,I3,r3,k,e,q3⟩=>?_)) hm
 subst e;cases r3;refine XW ?_
 cases k with
 | false=>exact ite_ff ⟨.bl false,H3,I3,rfl,q3⟩
 | true=>exact ite_tt (chain_last (thn (hc pins s3 U H3 _ I3 q3) λw' s4 ⟨z',H4,I4,r4,q4⟩=>ho' pins s4 U H4 y z' u w' Q I4 r2 r4 q4))
theorem ux (ho:OpR X (compareOp op) r) (ho':OpR X (compareOp op') r') (ha:PE X a ta) (hb:PE X b tb) (hc:PE X c tc)
  (hm:lastMarks [op,op'] [b,c]=false:=by with_unfolding_all rfl):PT X (.Compare a [op,op'] [b,c] pos) (tO (oM r r' ta tb tc)):=by
 intro pins s U H Q I h
 refine isTrue_chain (thn (ha pins s U H _ I h) λv s1 ⟨x,H1,I1,r1,q1⟩=>test_link (thn (hb pins s1 U H1 _ I1 q1) λu s2 ⟨y,H2,I2,r2,q2⟩ =>
  thn (ho pins s2 U H2 x y v u _ I2 r1 r2 q2) λd s3 ⟨z,H3,I3,r3,k,e,q3⟩=>?_)) hm
 subst e;cases r3;refine XW ?_
 cases k with
 | false =>
  obtain⟨k',e',q'⟩:=q3;cases e';exact ite_ff ⟨H3,I3,q'⟩
 | true =>
 refine ite_tt (test_last (thn (hc pins s3 U H3 _ I3 q3) λw' s4 ⟨z',H4,I4,r4,q4⟩=>thn (ho' pins s4 U H4 y z' u w' _ I4 r2 r4 q4) λd' s5 ⟨z2,H5,I5,r5,k2,e2,q5⟩=>?_));subst e2;cases r5;exact XW ⟨H5,I5,q5⟩
theorem gR:(sizeLine:Nat)<2 ^ 63:=by rw[XZ];decide
theorem bW:OpR X (binaryOp .Add) (λx y H Q=>∃i j,x=.str i/\y=.str j/\i.length+j.length<=sizeLine/\Q (.str (i++j)) H):=by
 intro pins s U H x y v u Q I rx ry h;obtain⟨i,j,rfl,rfl,hz,q⟩:=h;obtain⟨t,rfl⟩:=rx;obtain⟨t',rfl⟩:=ry;exact add_str (λt' tk=>⟨.str (i++j),H,I.tok _,⟨_,rfl⟩,q⟩) hz
theorem cZ {x:V} {us:List Value} (r:aQ [x] us):∃u,us=[u]/\aL x u:=by
 cases r with
 | cons r1 r2=>cases r2;exact⟨_,rfl,r1⟩
theorem lV {x y:V} {us:List Value} (r:aQ [x,y] us):∃u w',us=[u,w']/\aL x u/\aL y w':=by
 cases r with
 | cons r1 r2 =>
 cases r2 with
 | cons r3 r4=>cases r4;exact⟨_,_,rfl,r1,r3⟩
theorem tj (hc:X.calm=true):dG X (.builtin "max") (λxs H Q=>∃i j,xs=[.int i,.int j]/\Q (.int (if j>i then j else i)) H):=by
 intro pins s U H xs us Q I r h;obtain⟨i,j,rfl,q⟩:=h;obtain⟨u,w',rfl,⟨t,rfl⟩,⟨t',rfl⟩⟩:=lV r;refine max_two_ints (I.ok.hd hc) λh' tk k=>⟨_,H,I.kept k,?_,q⟩;by_cases hj:j>i
 ·rw[Qs hj,Qs hj];exact⟨_,rfl⟩
 rw[Qo hj,Qo hj];exact⟨_,rfl⟩
theorem kj (hc:X.calm=true):dG X (.builtin "min") (λxs H Q=>∃i j,xs=[.int i,.int j]/\Q (.int (if j<i then j else i)) H):=by
 intro pins s U H xs us Q I r h;obtain⟨i,j,rfl,q⟩:=h;obtain⟨u,w',rfl,⟨t,rfl⟩,⟨t',rfl⟩⟩:=lV r;refine min_two_ints (I.ok.hd hc) λh' tk k=>⟨_,H,I.kept k,?_,q⟩;by_cases hj:j<i
 ·rw[Qs hj,Qs hj];exact⟨_,rfl⟩
 rw[Qo hj,Qo hj];exact⟨_,rfl⟩
theorem bN:dG X (.type "int") (λxs H Q=>(∃i,xs=[.int i]/\Q (.int i) H)\/∃k,xs=[.bl k]/\Q (.int (if k then 1 else 0)) H):=by
 intro pins s U H xs us Q I r h;rcases h with⟨i,rfl,q⟩|⟨k,rfl,q⟩
 ·obtain⟨u,rfl,t,rfl⟩:=cZ r;exact call_int_int ⟨.int i,H,I,⟨_,rfl⟩,q⟩
 obtain⟨u,rfl,r1⟩:=cZ r;cases r1;exact call_int_bool ⟨.int (if k then 1 else 0),H,I.tok _,⟨_,rfl⟩,q⟩
end
structure ObjM (h:Heap) (x dx C:Addr) (mA:B2):Prop where
 obj:h.get? x=some (PySem.W.instObj C dx)
 ns:h.Ns1 dx mA
 ne:dx≠x
variable {mA:B2}
theorem sJ (n:h.Ns1 dx mA):∃od,h.get? dx=some od/\∀name,PySem.W.lookIn name od=some (mA name):=by
 obtain⟨o,es,ep,ho,hd,hk,_,hm⟩:=n;refine⟨o,ho,λname=>?_⟩;have e:=hm name;unfold nsFind findBy at e;rw[<-Array.find?_toList]at e;unfold PySem.W.lookIn;rw[hd];dsimp only
 split
 ·rename_i y q
  rw[q]at e;exact congrArg some e
 rename_i q
 rw[q]at e
 have a:es.toList.any (·.refKey)=false:=by
  rw[List.any_eq_false];intro y hy;obtain⟨z,t,hkey⟩:=hk y (Array.mem_toList_iff.mp hy);simp[DictEntry.refKey,hkey]
 have a':¬es.toList.any (·.refKey)=true:=by rw[a];exact Qr
 rw[Qo a'];exact congrArg some e
theorem ObjM.look {x:Addr} (I:ObjM h x dx C mA):∃od,PySem.W.InstAt h x (PySem.W.instObj C dx) C (some od)/\∀name,PySem.W.lookIn name od=some (mA name) :=
 let ⟨od,ho,hl⟩:=sJ I.ns
 ⟨od,⟨I.obj,rfl,rfl,ho⟩,hl⟩
section
variable {prog:Program} {w:World} {A:Around} {E:B0} {s:Shared} {K:PySem.W.Frag} {x dx C f:Addr} {mA:B2} {name:Str} {v:Value}
end
theorem fY.some_of {v:V} {o:Option Value} (r:fY (some v) o):∃u,o=some u/\aL v u:=by
 cases o with
 | none=>exact(show False from r).elim
 | some u=>exact⟨u,rfl,r⟩
theorem fY.none_of {o:Option Value} (r:fY none o):o=none:=by
 cases o with
 | none=>rfl
 | some u=>exact(show False from r).elim
section
variable {P:Program} {w:World} {H H':Hp} {h h':Heap} {a C dx:Addr} {fs fs':List (Str × V)}
theorem xk (hok:HOk P w H h) (e:H a=some (.ins C dx fs)):∃mA,ObjM h a dx C mA/\(∀f,fY (fs.lookup f) (mA f))/\PySem.Within mA (fs.map (·.1))/\fs.length<=1000/\H dx=some (.own a):=by
 obtain⟨d,z,ne,ob,mA,n,r,q⟩:=(show be P w H h a (.ins C dx fs) from hok a _ e);exact⟨mA,⟨ob,n,ne⟩,r,q,z,d⟩
end
structure Cls (K:PySem.W.Frag) (C:Addr):Prop where
 pg:PySem.W.plainGet K C Str.empty=true
 hd:PySem.W.hasDictIn K C=true
 po:PySem.W.plainOver K C=true
 sa:PySem.W.findIn K (.ref C) "__setattr__" = some (some (.builtin "object.__setattr__"))
theorem Cls.get {K:PySem.W.Frag} (c:Cls K C) (f:Str):PySem.W.plainGet K C f=true:=c.pg
structure Con (K:PySem.W.Frag) (C:Addr) (f:Str) (v:V) (u:Value):Prop where
 at_:PySem.W.findIn K (.ref C) f=some (some u)
 rel:aL v u
 get:PySem.W.specialIn K u "__get__" = some none
 cp:PySem.W.copiedNames.contains f=false
structure Meth (K:PySem.W.Frag) (C:Addr) (m:Str) (f:Addr):Prop where
 at_:PySem.W.findIn K (.ref C) m=some (some (.ref f))
 fn:PySem.W.isFn K (.ref f)=true
 kp:PySem.W.keepIn K (.ref f)=true
section
variable {X:Cx} {pins:B1} {U:St} {H:Hp} {s:Shared} {a C dx:Addr} {fs:List (Str × V)} {f:Str} {v:V} {A:Around} {E:B0}
end
section
variable {X:Cx} {o e value:Expr} {f:Str} {pos pos' tpos:Pos} {ta tv:TE}
end
section
variable {X:Cx} {pins:B1} {U:St} {H:Hp} {s:Shared} {A:Around} {E:B0} {Q:B0} {c:Value} {b:Bool}
inductive TyOf (K:PySem.W.Frag) (H:Hp):V->Value->Prop where
 | non:TyOf K H .non (.type "NoneType")
 | bl (x:Bool):TyOf K H (.bl x) (.type "bool")
 | int (i:Int):TyOf K H (.int i) (.type "int")
 | str (x:Str):TyOf K H (.str x) (.type "str")
 | flt (x:UInt64):TyOf K H (.flt x) (.type "float")
 | lst {a:Addr} {xs:List V} (e:H a=some (.lst xs)):TyOf K H (.ref a) (.type "list")
 | frz {a:Addr} {o:Obj} {xs:List V} (e:H a=some (.frz o (.lst xs))):TyOf K H (.ref a) (.type "list")
 | tup {a:Addr} {xs:List V} (e:H a=some (.tup xs)):TyOf K H (.ref a) (.type "tuple")
 | dK {a:Addr} {kvs:List (Key × V)} (e:H a=some (.dK kvs)):TyOf K H (.ref a) (.type "dict")
 | dT {a:Addr} {kvs:List (aB × V)} (e:H a=some (.dT kvs)):TyOf K H (.ref a) (.type "dict")
 | ins {a C dx:Addr} {fs:List (Str × V)} (e:H a=some (.ins C dx fs)) (cl:Cls K C) (ha:PySem.W.findIn K (.ref C) "__class__" = some (some (.builtin "object.__class__")))
   (hn:PySem.W.specialIn K (.builtin "object.__class__") "__get__" = some (some (.builtin "getset_descriptor.__get__"))) (htk:PySem.W.takesIn K (.builtin "object.__class__")=some true)
   (hm:PySem.W.mroIn K C (.type "object")=some true):TyOf K H (.ref a) (.ref C)
theorem sR {x:V} {u t:Value} (I:Inv X pins U H s) (rx:aL x u) (ty:TyOf X.K H x t) (e:PySem.W.kitOne X.K t c=some b) (h:∀tk,Q (.bool b) { s with toks:=tk }) :
  wpAny (model X.prog X.w) A (call (.builtin "isinstance") [u,c]) Q E s:=by
 cases ty with
 | non=>cases (show u=Value.none from rx);exact X2 PySem.W.kitx_none I.kIn True.intro e (λz=>nomatch z) h
 | bl y=>cases (show u=Value.bool y from rx);exact X2 PySem.W.kitx_bool I.kIn True.intro e (λz=>nomatch z) h
 | int i=>obtain⟨t,q⟩:=(show ∃t,u=Value.int i t from rx);cases q;exact X2 PySem.W.kitx_int I.kIn True.intro e (λz=>nomatch z) h
 | str y=>obtain⟨t,q⟩:=(show ∃t,u=Value.str y t from rx);cases q;exact X2 PySem.W.kitx_str I.kIn True.intro e (λz=>nomatch z) h
 | flt y=>obtain⟨t,q⟩:=(show ∃t,u=Value.float y t from rx);cases q;exact X2 PySem.W.kitx_float I.kIn True.intro e (λz=>nomatch z) h
 | @lst a xs ea =>
  cases (show u=Value.ref a from rx);obtain⟨_,_,n,_,h1⟩:=(show be X.prog X.w H s.heap a (.lst xs) from I.hok a _ ea);exact X2 PySem.W.kitx_list I.kIn ⟨_,h1,rfl⟩ e (λz=>nomatch z) h
 | @frz a ob xs ea =>
  cases (show u=Value.ref a from rx);obtain⟨_,_,_,n,_,h1⟩:=(show be X.prog X.w H s.heap a (.frz ob (.lst xs)) from I.hok a _ ea);exact X2 PySem.W.kitx_list I.kIn ⟨_,h1,rfl⟩ e (λz=>nomatch z) h
 | @tup a xs ea =>
  cases (show u=Value.ref a from rx);obtain⟨_,_,_,p⟩:=(show be X.prog X.w H s.heap a (.tup xs) from I.hok a _ ea);obtain⟨o,h1,h2,_⟩:=p;exact X2 PySem.W.kitx_tuple I.kIn ⟨o,h1,h2⟩ e (λz=>nomatch z) h
 | @dK a kvs ea =>
  cases (show u=Value.ref a from rx);obtain⟨_,_,vs,_,p⟩:=(show be X.prog X.w H s.heap a (.dK kvs) from I.hok a _ ea);obtain⟨o,es,ep,h1,h2,_⟩:=p;exact X2 PySem.W.kitx_dict I.kIn ⟨o,h1,h2.1⟩ e (λz=>nomatch z) h
 | @dT a kvs ea =>
  cases (show u=Value.ref a from rx);obtain⟨_,_,xs,_,o,es,ep,h1,h2,_⟩:=(show be X.prog X.w H s.heap a (.dT kvs) from I.hok a _ ea);exact X2 PySem.W.kitx_dict I.kIn ⟨o,h1,h2.1⟩ e (λz=>nomatch z) h
 | @ins a C dx fs ea cl ha hn htk hm =>
 cases (show u=Value.ref a from rx);obtain⟨mA,O,_⟩:=xk I.hok ea;obtain⟨od,J,_⟩:=O.look;exact X2 (PySem.W.kitx_own (cl.get _) cl.hd ha hn htk hm) I.kIn J e (λz=>nomatch z) h
end
structure Room (k:Nat) (A:Around):Prop where
 hd:A.handled=none
 dp:A.depth+3*k+5<recursionLimit
 un:A.units+16*k+200<cLine
theorem Room.mono {j k:Nat} (r:Room k A) (h:j<=k):Room j A:=⟨r.hd,by have:=r.dp;omega,by have:=r.un;omega⟩
theorem Room.deeper {k:Nat} (r:Room (k+1) A) (env:Env):Room k (A.deeper env) :=
 ⟨r.hd,by have:=r.dp;show A.depth+1+3*k+5<_;omega,by have:=r.un;show A.units+3+16*k+200<_;omega⟩
theorem Room.depth {k:Nat} (r:Room k A):A.depth<recursionLimit:=by have:=r.dp;omega
theorem Room.units {k:Nat} (r:Room k A):A.units+64<cLine:=by have:=r.un;omega
def lY:TA:=λ_ H Q=>Q [] H
def fF (ta:TE) (tr:TA):TA:=λU H Q=>ta U H λx H1=>tr U H1 λxs H2=>Q (x::xs) H2
section
variable {X:Cx} {e:Expr} {es:List Expr} {te:TE} {t:TA} {pos:Pos}
theorem ac:PA X [] lY:=λ_ _ _ _ H Q I h=>Calls.spliced_nil ⟨[],H,I,.nil,h⟩
theorem aa (ha:PE X e te) (hr:PA X es t) (hs:starEach (e::es) X.env=(false,eval e X.env)::starEach es X.env:=by rfl):PA X (e::es) (fF te t):=by
 intro pos pins s U H Q I h;rw[hs];show wpAny _ _ (spliced ((false,eval e X.env)::backTo pos (starEach es X.env))) _ _ s;refine XI (thn (ha pins s U H _ I h) λu s1 ⟨x,H1,I1,r1,q1⟩=>?_);exact thn (hr pos pins s1 U H1 _ I1 q1) λus s2 ⟨xs,H2,I2,r2,q2⟩=>⟨x::xs,H2,I2,.cons r1 r2,q2⟩
def tN (t:TA):TE:=λU H Q=>t U H λxs H1=>xs.length<=sizeLine/\∀p,H1 p=none->Q (.ref p) (upd H1 p (.tup xs))
def wg (t:TA):TE:=λU H Q=>t U H λxs H1=>xs.length<=sizeLine/\∀p,H1 p=none->Q (.ref p) (upd H1 p (.lst xs))
theorem pe_tup {x1} (h:PA X es t):PE X (.Tuple es x1 pos) (tN t):=by
 intro pins s U H Q I hq;refine wpAny_Tuple_spliced (thn (h pos pins s U H _ I hq) λus s1 ⟨xs,H1,I1,r,z,q⟩=>⟨by rw[<-r.length];exact z,?_⟩);have hf:H1 s1.heap.objs.size=none:=I1.hok.fresh (Qg _);refine⟨.ref s1.heap.objs.size,upd H1 s1.heap.objs.size (.tup xs),I1.laid (t':=s1.toks) (λb u e=>Qc _ e) (Qg _) ?_,rfl,q _ hf⟩;exact⟨z,us,r,⟨_,Qt _ rfl,rfl,_,rfl⟩⟩
theorem pe_lst (h:PA X es t):PE X (.List es pos) (wg t):=by
 intro pins s U H Q I hq;refine wpAny_List_spliced (thn (h pos pins s U H _ I hq) λus s1 ⟨xs,H1,I1,r,z,q⟩=>⟨by rw[<-r.length];exact z,?_⟩);have hf:H1 s1.heap.objs.size=none:=I1.hok.fresh (Qg _);refine⟨.ref s1.heap.objs.size,upd H1 s1.heap.objs.size (.lst xs),I1.laid (t':=s1.toks) (λb u e=>Qc _ e) (Qg _) ?_,rfl,q _ hf⟩;exact⟨z,us,0,r,Qt _ rfl⟩
end
abbrev Sp:=List V->Hp->VK->XK->Prop
abbrev CXT:=List Env->Hp->Shared->XK->B0
structure Env0 (P:Program) (w:World) (K:PySem.W.Frag) (mg:B2) (base:Heap) (A:Around) (outer:List Env) (s:Shared) (H:Hp):Prop where
 frames:A.frames=some outer
 mod:Mod K mg base
 bs:∀b o,base.get? b=some o->s.heap.get? b=some o/\H b=none
 bsz:base.objs.size<=s.heap.objs.size
 funs:s.heap.FunFrames base outer
 frf:∀b∈frs outer,H b=none
 hok:HOk P w H s.heap
 bare:AllBare s.gens
def CE (outer:List Env) (P:Program) (w:World) (H:Hp) (s:Shared) (Q:VK) (u:Value) (s':Shared):Prop :=
 ∃v H',s'.os=s.os/\AllBare s'.gens/\Un (frs outer) [] H H' s.heap s'.heap/\HOk P w H' s'.heap/\aL v u/\Q v H'
def CR (CX:CXT) (outer:List Env) (P:Program) (w:World) (H:Hp) (s:Shared) (Q:VK) (E:XK) (r:Result) (s':Shared):Prop :=
 match r with
 | .ok (.ret u)=>CE outer P w H s Q u s'
 | .ok _=>False
 | .error e=>CX outer H s E e s'
structure FnOk (P:Program) (w:World) (K:PySem.W.Frag) (mg:B2) (base:Heap) (CX:CXT) (k:Nat) (f:Addr) (fd:FuncData) (ps:List Str) (sp:Sp):Prop where
 len:∀vs H Q E,sp vs H Q E->vs.length=ps.length
 run:∀(A:Around) (outer:List Env) (s:Shared) (H:Hp) (args:Args) (us:List Value) (vs:List V) (Q:VK) (E:XK),Room k A->Env0 P w K mg base A outer s H->BindsTo s fd args (ps.zip us)->aQ vs us->sp vs H Q E ->
  codeAny (model P w) A (.call (.ref f) args) (CR CX outer P w H s Q E) s
section
variable {X:Cx} {pins:B1} {U:St} {H:Hp} {s s':Shared}
theorem Inv.env0 (I:Inv X pins U H s):Env0 X.prog X.w X.K X.mg X.base X.A X.stack s H :=
 ⟨I.ok.frames,I.ok.mod,I.bs,QJ I.ok.bsz I.sz,I.stack,I.stkFree,I.hok,I.bare⟩
theorem Inv.after {Q:VK} {u:Value} (I:Inv X pins U H s) (h:CE X.stack X.prog X.w H s Q u s'):EP X pins U Q u s':=by
 obtain⟨v,H',os,bare,un,hok,r,q⟩:=h;obtain⟨hh,g,d,t,os'⟩:=s';obtain rfl:os'=s.os:=os;exact⟨v,H',I.call (h':=hh) (g':=g) (d':=d) (t':=t) (ch:=[]) un hok bare (λb z=>absurd z (by simp)),r,q⟩
end
def qu (sp:Sp) (dvs:List V) (E:XK) (t:TA):TE:=λU H Q=>t U H λvs H1=>sp (vs++dvs) H1 Q E
def jr (K:PySem.W.Frag) (fd:FuncData) (ps:List Str) (ds:List Value):Prop :=
 ∀(s:Shared) (us:List Value),K.In s.heap->(us++ds).length=ps.length->BindsTo s fd ⟨us,[]⟩ (ps.zip (us++ds))
variable {ps N:List Str}
theorem jr.all {K:PySem.W.Frag} {fd:FuncData} (h:∀us:List Value,us.length=ps.length->bindArgs fd ⟨us,[]⟩=pure (ps.zip us)):jr K fd ps []:=λs us _ hl=>by
 rw[List.append_nil]at hl ⊢;exact .of_eq (h us hl)
def jq (CX:CXT) (X:Cx) (E:XK):Prop:=∀(pins:B1) (U:St) (H:Hp) (s:Shared) (e:Value) (s':Shared),Inv X pins U H s->CX X.stack H s E e s'->X.xe e s'
section
variable {X:Cx} {CX:CXT} {k:Nat} {f C:Addr} {fd:FuncData} {ps:List Str} {sp:Sp} {dvs:List V} {ds:List Value} {E:XK} {x m:Str} {p pos apos:Pos} {e o:Expr} {es:List Expr} {ta:TE} {t:TA}
theorem yQ {pins:B1} {U:St} {H:Hp} {s:Shared} {Q:VK} {us:List Value} {vs:List V} (F:FnOk X.prog X.w X.K X.mg X.base CX k f fd ps sp) (hr:Room k X.A) (hb:jr X.K fd ps ds) (hd:aQ dvs ds) (hx:jq CX X E)
  (I:Inv X pins U H s) (r:aQ vs us) (h:sp (vs++dvs) H Q E):wpAny (model X.prog X.w) X.A (call (.ref f) us) (EP X pins U Q) X.xe s:=by
 have r2:aQ (vs++dvs) (us++ds):=r.append hd;have hl:(us++ds).length=ps.length:=by rw[<-r2.length];exact F.len _ _ _ _ h
 refine wpAny_call (codeAny_mono (F.run X.A X.stack s H ⟨us,[]⟩ (us++ds) (vs++dvs) Q E hr I.env0 (hb s us I.kIn hl) r2 h) λr s' hq=>?_)
 cases r with
 | error e=>exact hx pins U H s e s' I hq
 | ok fl =>
 cases fl with
 | ret u=>exact I.after hq
 | next=>exact False.elim hq
 | brk=>exact False.elim hq
 | cont=>exact False.elim hq
theorem wx (F:FnOk X.prog X.w X.K X.mg X.base CX k f fd ps sp) (hr:Room k X.A) (hg:Gl X x) (hm:X.mg x=some (.ref f)) (hk:PySem.W.keepIn X.K (.ref f)=true) (hb:jr X.K fd ps ds) (hd:aQ dvs ds) (hx:jq CX X E)
  (ha:PA X (e::es) t) (hdb:(x==("__debug__" : Str))=false:=by decide) (he:starEach (e::es) X.env=(false,eval e X.env)::starEach es X.env:=by rfl) (hpl:(backTo pos (starEach es X.env)).any (·.1)=false:=by rfl) :
  PE X (.Call (.Name x p) (e::es) [] pos) (qu sp dvs E t):=by
 intro pins s U H Q I h;refine wpAny_Call_Name_kw (lh I hg hm ?_ hdb);refine PySem.W.callWith_K (h₀:=X.base) I.ok.mod.kin hk (thn (ha pos pins s U H _ I h) λus s1 ⟨vs,H1,I1,r,q⟩=>⟨I1.kIn,?_⟩) he hpl;exact yQ F hr hb hd hx I1 r q
structure Mk (K:PySem.W.Frag) (C f:Addr):Prop where
 makes:PySem.W.makesIn K C=true
 init:PySem.W.findIn K (.ref C) "__init__" = some (some (.ref f))
 fn:PySem.W.isFn K (.ref f)=true
 kp:PySem.W.keepIn K (.ref C)=true
end
section
variable {X:Cx} {CX:CXT} {k:Nat} {f C:Addr} {fd:FuncData} {ps ks:List Str} {sp:Sp} {E:XK} {x m:Str} {p pos apos kpos:Pos} {e o:Expr} {es:List Expr} {kws:List Keyword} {te ta:TE} {t tk:TA} {nm:Option Str}
structure KBinds (K:PySem.W.Frag) (fd:FuncData) (ps ks:List Str) (g:List Value->List Value->List Value) (gV:List V->List V->List V):Prop where
 to:∀(s:Shared) (us ws:List Value),K.In s.heap->(g us ws).length=ps.length->BindsTo s fd ⟨us,ks.zip ws⟩ (ps.zip (g us ws))
 rel:∀{vs:List V} {us:List Value} {zs:List V} {ws:List Value},aQ vs us->aQ zs ws->aQ (gV vs zs) (g us ws)
variable {g:List Value->List Value->List Value} {gV:List V->List V->List V}
end
structure FnScope (N P:List Str) (sc:Scope):Prop where
 kind:sc.kind=.function
 co:sc.isCoroutine=false
 gen:sc.isGenerator=false
 nd:N.Nodup
 pre:N.take P.length=P
 par:∀x∈P,sc.names.lookup x=some .local\/sc.names.lookup x=some .cell
 nofree:∀y∈sc.names,y.2≠.free
theorem km {kindOf:Str->Option NameKind} {x:Str}:∀{binds:List (Str × Value)} {m:B2},(∀v,(x,v)∉binds)->bindL kindOf binds m x=m x
 | [],_,_=>rfl
 | (n,v)::r,m,h=>by
  unfold bindL;rw[km λw hw=>h w (Qn _ hw)]
  split
  ·have:x≠n:=by rintro rfl;exact h v Xp
   simp[this]
  rfl
theorem kr {kindOf:Str->Option NameKind} {x:Str}:∀{binds:List (Str × Value)} {m:B2},(∀v,(x,v)∉binds)->bindC kindOf binds m x=m x
 | [],_,_=>rfl
 | (n,v)::r,m,h=>by
  unfold bindC;rw[kr λw hw=>h w (Qn _ hw)]
  split
  ·rfl
  have:x≠n:=by rintro rfl;exact h v Xp
  simp[this]
theorem ko {kindOf:Str->Option NameKind} {x:Str} {v:Value}:∀{P:List Str} {vs:List Value} {i:Nat} {m:B2},P.Nodup->P[i]?=some x->vs[i]?=some v->kindOf x=some .local ->
  bindL kindOf (P.zip vs) m x=some v
 | [],_,_,_,_,h,_,_=>by simp at h
 | _::_,[],_,_,_,_,h,_=>by simp at h
 | p::P,w::vs,0,m,nd,h1,h2,hk=>by
  simp at h1 h2;subst h1;subst h2;show bindL kindOf ((p,w)::P.zip vs) m p=_;unfold bindL;rw[km λv hv=>(QU.mp nd).1 (List.of_mem_zip hv).1,Qs hk];simp
 | p::P,w::vs,i+1,m,nd,h1,h2,hk=>by
  show bindL kindOf ((p,w)::P.zip vs) m x=_;unfold bindL;exact ko (i:=i) (QU.mp nd).2 (by simpa using h1) (by simpa using h2) hk
theorem kw {kindOf:Str->Option NameKind} {x:Str} {v:Value}:∀{P:List Str} {vs:List Value} {i:Nat} {m:B2},P.Nodup->P[i]?=some x->vs[i]?=some v->kindOf x≠some .local ->
  bindC kindOf (P.zip vs) m x=some v
 | [],_,_,_,_,h,_,_=>by simp at h
 | _::_,[],_,_,_,_,h,_=>by simp at h
 | p::P,w::vs,0,m,nd,h1,h2,hk=>by
  simp at h1 h2;subst h1;subst h2;show bindC kindOf ((p,w)::P.zip vs) m p=_;unfold bindC;rw[kr λv hv=>(QU.mp nd).1 (List.of_mem_zip hv).1,Qo hk];simp
 | p::P,w::vs,i+1,m,nd,h1,h2,hk=>by
  show bindC kindOf ((p,w)::P.zip vs) m x=_;unfold bindC;exact kw (i:=i) (QU.mp nd).2 (by simpa using h1) (by simpa using h2) hk
def start (N:List Str) (vs:List V):St:=vs.map some++List.replicate (N.length-vs.length) none
noncomputable def cxOf (CX:CXT) (P:Program) (w:World) (K:PySem.W.Frag) (mg:B2) (base:Heap) (N:List Str) (qual:Str) (scope:Scope) (f:Addr) (cd:Value) (A:Around) (outer:List Env) (s:Shared) (H:Hp) (E:XK):Cx where
 prog:=P
 w:=w
 K:=K
 mg:=mg
 base:=base
 A:=A.deeper (envOfC qual scope s.heap.objs.size f cd)
 N:=N
 s₀:=s
 H₀:=H
 env:=envOfC qual scope s.heap.objs.size f cd
 outer:=outer
 stack:=envOfC qual scope s.heap.objs.size f cd::outer
 ex:=[]
 calm:=true
 fn:=λ_=>true
 pn:=[]
 xe:=λe s'=>wpAny (model P w) (A.deeper (envOfC qual scope s.heap.objs.size f cd)) (leaving (envOfC qual scope s.heap.objs.size f cd) e) (λ_ s''=>CX outer H s E e s'') (λe' s''=>CX outer H s E e' s'') s'
variable {sc scope:Scope}
theorem n_ {n:Nat} {x:Str} (h:sc.names.lookup x=some .cell):∃c,(cellsFrom n sc.names []).lookup x=some c:=by
 have q:=PySem.W.cellsFrom_some sc.names n [] (.inl h);exact Option.isSome_iff_exists.mp q
theorem sS {CX:CXT} {P:Program} {w:World} {K:PySem.W.Frag} {mg:B2} {base:Heap} {qual:Str} {outer:List Env} {E:XK} {us:List Value} {vs:List V}
  (S:FnScope N ps scope) (hd:A.handled=none) (e0:Env0 P w K mg base A outer s H) (hl:vs.length=ps.length) (r:aQ vs us)
  (x:InCallC s s.heap.objs.size (bindL (envOfC qual scope s.heap.objs.size f cd).kindOf (ps.zip us) λ_=>none) (cellsFrom (s.heap.objs.size+1) scope.names []) (bindC (envOfC qual scope s.heap.objs.size f cd).kindOf (ps.zip us) λ_=>none) s1) :
  Inv (cxOf CX P w K mg base N qual scope f cd A outer s H E) [] (start N vs) H s1:=by
 have hpl:ps.length<=N.length:=by have:=congrArg List.length S.pre;rw[QO]at this;omega
 obtain⟨h1,tk,rfl,hk⟩:=x.done;have noA:∀b:Addr,b∉(cxOf CX P w K mg base N qual scope f cd A outer s H E).ex:=λb z=>absurd (show b∈([]:B3) from z) (by simp)
 refine⟨⟨e0.mod,S.kind,rfl,rfl,Qg _,λy z c h1 h2=>?_,λy hy=>?_,λy c _ h=>?_,λ_=>hd,Around.frames_deeper e0.frames,.inr ⟨rfl,rfl⟩,λb z=>absurd z (noA b),e0.bs,e0.bsz,λb _ _=>noA b,λb z=>absurd z (noA b),e0.funs,e0.frf⟩,
  rfl,e0.bare,Un.kept hk,⟨_,x.toInCall.ns,λi y v h1 h2 h3=>?_⟩,λy c h=>⟨_,x.cell y c h⟩,e0.hok.fresh (Qg _),λy c h=>?_,λp hp=>absurd (show p∈([]:B1) from hp) (by simp),e0.hok.kept hk,?_⟩
 ·exact name_of_addr x.apart (PySem.mem_of_lookup h1) (PySem.mem_of_lookup h2)
 ·have hy:scope.names.lookup y=some .cell\/scope.names.lookup y=some .free:=hy;rcases hy with hy|hy
  ·exact n_ hy
  exact absurd rfl (S.nofree _ (PySem.mem_of_lookup hy))
 ·exact X7 (x.above y c (PySem.mem_of_lookup h))
 ·have hi:i<vs.length:=by
   unfold start at h2;by_cases hi:i<vs.length
   ·exact hi
   rw[QK (by simpa using hi)]at h2;rw[List.getElem?_replicate]at h2
   split at h2 <;> cases h2
  have ha:vs[i]?=some v:=by
   unfold start at h2;rw[QC (by simpa using hi),Qp]at h2
   cases e:vs[i]? with
   | none=>rw[e]at h2;cases h2
   | some a=>rw[e]at h2;cases h2;rfl
  obtain⟨u,hu,rv⟩:=r.get ha
  have hp:ps[i]?=some y:=by
   rw[<-S.pre,List.getElem?_take_of_lt (by omega)];exact h1
  have ndP:ps.Nodup:=by rw[<-S.pre];exact S.nd.sublist (List.take_sublist _ _)
  refine⟨u,rv,?_⟩;rcases S.par y (Qk hp) with k|k
  ·exact .inl ⟨k,ko ndP hp hu k⟩
  obtain⟨c,e⟩:=n_ (n:=s.heap.objs.size+1) k;refine .inr ⟨.inl k,c,e,?_⟩;have q:=x.cell y c e;rw[kw ndP hp hu (by show scope.names.lookup y≠_;rw[k];decide)]at q;exact q
 ·exact e0.hok.fresh (X7 (x.above y c (PySem.mem_of_lookup h)))
 unfold start;show _=N.length;rw[Qh,Qb,X5];omega
theorem yt {CX:CXT} {P:Program} {w:World} {K:PySem.W.Frag} {mg:B2} {base:Heap} {k:Nat} {name qual:Str} {params:Arguments} {body:List Stmt} {kV:Value} {an od:Option Addr}
  {osl:Array (Option Value)} {sp:Sp} (lk:K.lookup f=some ⟨oc,od,.func (PySem.W.fnOf name qual params body scope dV kV doc pm an cdv ct),osl⟩) (hcd:PySem.W.codeIn K cdv qual=true) (S:FnScope N ps scope)
  (len:∀vs H Q E,sp vs H Q E->vs.length=ps.length)
  (hbody:∀(A:Around) (outer:List Env) (s:Shared) (H:Hp) (vs:List V) (Q:VK) (E:XK),Room k (A.deeper (envOfC qual scope s.heap.objs.size f cdv))->sp vs H Q E ->
   ∃t,PSs (cxOf CX P w K mg base N qual scope f cdv A outer s H E) body t/\t { nx:=λ_ H'=>Q .non H',rt:=Q } (start N vs) H) :
  FnOk P w K mg base CX (k+1) f (PySem.W.fnOf name qual params body scope dV kV doc pm an cdv ct) ps sp:=by
 refine⟨len,λA outer s H args us vs Q E hr e0 hb r hsp=>?_⟩;have hl:=len _ _ _ _ hsp;have KX:K.In s.heap:=e0.mod.kin.keeps λb o e=>(e0.bs b o e).1;have lim:s.heap.NoLimit:=e0.mod.nolimit.keeps λb o e=>(e0.bs b o e).1
 have hkind:∀y∈ps.zip us,scope.names.lookup y.1=some .local\/(scope.names.lookup y.1=some .cell/\((cellsFrom (s.heap.objs.size+1) scope.names []).lookup y.1).isSome=true):=λ⟨n,v⟩ hy=>by
  rcases S.par n (List.of_mem_zip hy).1 with q|q
  ·exact .inl q
  exact .inr ⟨q,PySem.W.cellsFrom_some _ _ _ (.inl q)⟩
 refine codeAny_call_function hr.depth (KX _ _ lk) rfl S.co S.gen rfl (PySem.W.codeRec_of KX hcd) (hb _ _ _ _ ?_);refine wpAny_newFunctionEnv_cells S.kind hkind λenv he s1 x=>?_;subst he;refine⟨lim.keeps x.toInCall.keep,codeAny_func ?_⟩;obtain⟨t,ht,hq⟩:=hbody A outer s H vs Q E (hr.deeper _) hsp;have I:Inv (cxOf CX P w K mg base N qual scope f cdv A outer s H E) [] (start N vs) H s1:=sS S hr.hd e0 hl r x;refine XT (ht [] s1 (start N vs) H _ I hq) (λfl s' hs=>?_) λe s' hs=>hs
 have fin:∀{σ':St} {H':Hp} {v:V} {u:Value},Inv (cxOf CX P w K mg base N qual scope f cdv A outer s H E) [] σ' H' s'->aL v u->Q v H'->CE outer P w H s Q u s' :=
  λ{σ' H' v u} J rv q=>⟨v,H',J.os,J.bare,J.base,J.hok,rv,q⟩
 cases fl with
 | ret u =>
  obtain⟨v,σ',H',J,rv,q⟩:=hs;exact fin J rv q
 | next =>
  obtain⟨σ',H',J,q⟩:=hs;exact fin (v:=V.non) (u:=Value.none) J rfl q
 | brk =>
  obtain⟨_,_,_,q⟩:=hs;exact False.elim q
 | cont =>
 obtain⟨_,_,_,q⟩:=hs;exact False.elim q
section
variable {X:Cx} {x:Str} {p pos:Pos} {e:Expr} {es:List Expr} {t:TA} {id T:String} {r:List V->Hp->VK->Prop}
def tCB (r:List V->Hp->VK->Prop) (t:TA):TE:=λU H Q=>t U H λvs H1=>r vs H1 Q
theorem aq (hc:dG X (.builtin id) r) (hg:Gl X x) (hm:X.mg x=none) (hv:bootBuiltins x=some (.builtin id)) (ha:PA X (e::es) t) (hn:x ≠ "__name__" := by decide) (hdb:(x==("__debug__" : Str))=false:=by decide)
  (he:starEach (e::es) X.env=(false,eval e X.env)::starEach es X.env:=by rfl) (hpl:(backTo pos (starEach es X.env)).any (·.1)=false:=by rfl):PE X (.Call (.Name x p) (e::es) [] pos) (tCB r t):=by
 intro pins s U H Q I h;refine wpAny_Call_Name_kw (cL I hg hm hv ?_ hn hdb);exact PyProof.Rows.callWith_builtin1 (thn (ha pos pins s U H _ I h) λus s1 ⟨vs,H1,I1,r1,q1⟩=>hc pins s1 U H1 vs us Q I1 r1 q1) he hpl
theorem bp (hc:dG X (.type T) r) (hg:Gl X x) (hm:X.mg x=none) (hv:bootBuiltins x=some (.type T)) (ha:PA X (e::es) t) (hn:x ≠ "__name__" := by decide) (hdb:(x==("__debug__" : Str))=false:=by decide)
  (he:starEach (e::es) X.env=(false,eval e X.env)::starEach es X.env:=by rfl) (hpl:(backTo pos (starEach es X.env)).any (·.1)=false:=by rfl):PE X (.Call (.Name x p) (e::es) [] pos) (tCB r t):=by
 intro pins s U H Q I h;refine wpAny_Call_Name_kw (cL I hg hm hv ?_ hn hdb);exact Xd (thn (ha pos pins s U H _ I h) λus s1 ⟨vs,H1,I1,r1,q1⟩=>hc pins s1 U H1 vs us Q I1 r1 q1) he hpl
end
end L2
namespace HT
open PySem PyProof.Rows
section
open PySem.SeqAt
open PySem.AutoSeq1 (wpAny_loadPart')
open PySem.MeetsSeq PySem.MeetsSeq2 PySem.MeetsSeq3
end
section
variable {prog:Program} {w:World} {A:Around} {E:B0} {s:Shared}
def sIx (n d:Nat):Option Int->Nat
 | none=>d
 | some v=>if v<0 then (v+(n:Int)).toNat else min v.toNat n
theorem mJ (n d:Nat):sIx n d none=d:=rfl
theorem qJ (n d k:Nat):sIx n d (some (k:Int))=min k n:=by
 show (if (k:Int)<0 then ((k:Int)+(n:Int)).toNat else min (k:Int).toNat n)=min k n;rw[Qo (by omega),Q7]
theorem yO (n d:Nat) (hd:d<=n) (o:Option Int):sIx n d o<=n:=by
 cases o with
 | none=>exact hd
 | some v =>
 show (if v<0 then (v+(n:Int)).toNat else min v.toNat n)<=n;by_cases hv:v<0
 ·rw[Qs hv];omega
 rw[Qo hv];exact Nat.min_le_right _ _
theorem rJ (v:Int) (n d:Nat):(if v<0 then max (v+(n:Int)) 0 else min v (n:Int))=((sIx n d (some v):Nat):Int):=by
 show (if v<0 then max (v+(n:Int)) 0 else min v (n:Int))=(((if v<0 then (v+(n:Int)).toNat else min v.toNat n):Nat):Int);by_cases hv:v<0
 ·simp only[Qs hv];omega
 simp only[Qo hv];omega
theorem qe (lo hi:Option Int) (n:Nat):Builtin.Slice.sliceAdjust lo hi 1 (n:Int)=(((sIx n 0 lo:Nat):Int),((sIx n n hi:Nat):Int)):=by
 have h1:¬((1:Int)<0):=by omega
 unfold Builtin.Slice.sliceAdjust;simp only[h1,XD];refine Prod.ext ?_ ?_
 ·cases lo with
  | none=>rfl
  | some v=>exact rJ v n 0
 cases hi with
 | none=>rfl
 | some v=>exact rJ v n n
theorem oZ (i j:Nat):Builtin.Slice.slicePlaces (i:Int) (j:Int) 1=j-i:=by
 unfold Builtin.Slice.slicePlaces;have h1:(1:Int)>0:=by omega
 simp only[h1,if_true,Int.ediv_one]
 split <;> omega
variable {o lo hi:Option Int} {v vl vu:Value}
theorem iD {Q:Option Int->Shared->Prop} (p:IsPart v o) (h:Q o s):wpAny (model prog w) A (Builtin.Slice.slicePartIndex v) Q E s:=by
 cases p with
 | none=>exact slicePart_none h
 | int i t=>exact slicePart_int h
theorem gI {sl:Addr} {n:Nat} {Q:Int × Int × Nat->Shared->Prop} (hs:s.heap.IsSliceOf sl vl vu .none) (pl:IsPart vl lo) (pu:IsPart vu hi)
  (h:Q (((sIx n 0 lo:Nat):Int),1,sIx n n hi-sIx n 0 lo) s):wpAny (model prog w) A (Builtin.Slice.sliceApplied (.ref sl) (pure (n:Int))) Q E s:=by
 obtain⟨os,hos,hcs,hds⟩:=id hs;unfold Builtin.Slice.sliceApplied Builtin.Slice.sliceFields;refine Qa (Qa (Xy hos hds (x:=vl) rfl (Qa (Xy hos hds (x:=vu) rfl (Qa (Xy hos hds (x:=.none) rfl (Qf ?_)))))));refine Qa (slicePart_none ?_);show wpAny _ _ (if ((1:Int)==0)=true then _ else _) _ _ s;rw[Qo (by decide)];refine Qa (iD pl (Qa (iD pu (Qa (Qf ?_)))));show wpAny _ _ (match Builtin.Slice.sliceAdjust lo hi 1 (n:Int) with|(lo,hi)=>pure (lo,(1:Int),Builtin.Slice.slicePlaces lo hi 1)) _ _ s;rw[qe lo hi n];show wpAny _ _ (pure (((sIx n 0 lo:Nat):Int),(1:Int),Builtin.Slice.slicePlaces ((sIx n 0 lo:Nat):Int) ((sIx n n hi:Nat):Int) 1)) _ _ s;rw[oZ];exact Qf h
theorem uC (xs:Array Value) (i k:Nat):((List.range k).filterMap λ(m:Nat)=>xs[((i:Int)+(m:Int)*1).toNat]?).toArray=((xs.toList.drop i).take k).toArray:=by
 have e:(λ(m:Nat)=>xs[((i:Int)+(m:Int)*1).toNat]?)=λm=>xs[i+m]?:=by
  funext m;have:((i:Int)+(m:Int)*1).toNat=i+m:=by omega
  rw[this]
 rw[e];have:=pick_run xs i k;rw[List.filterMap_map]at this;have e2:((λx=>xs[x]?)∘λx=>i+x)=λm=>xs[i+m]?:=rfl;rw[e2]at this;rw[this]
theorem gx {t sl:Addr} {items:Array Value} {Q:B0} (ht:IsTup s.heap t items) (hs:s.heap.IsSliceOf sl vl vu .none) (pl:IsPart vl lo) (pu:IsPart vu hi)
  (hw:¬(sIx items.size 0 lo=0/\sIx items.size items.size hi=items.size))
  (h:Q (.ref s.heap.objs.size) { s with heap:=s.heap.push { cls:=.type "tuple", data:=.seq ((items.toList.drop (sIx items.size 0 lo)).take (sIx items.size items.size hi-sIx items.size 0 lo)).toArray } })
  (hsz:items.size<=sizeLine):wpAny (model prog w) A (getItem (.ref t) (.ref sl)) Q E s:=by
 have htake:sizeOk (.seq ((items.toList.drop (sIx items.size 0 lo)).take (sIx items.size items.size hi-sIx items.size 0 lo)).toArray):=by
  show ((items.toList.drop (sIx items.size 0 lo)).take (sIx items.size items.size hi-sIx items.size 0 lo)).toArray.size<=sizeLine;rw[Ql,QO,XG,Qi];omega
 have hj:sIx items.size items.size hi<=items.size:=yO _ _ (Qg _) hi;obtain⟨os,hos,hcs,hds⟩:=id hs;have hTs:s.TypeIs (.ref sl) "slice" := ⟨os,hos,hcs⟩;unfold getItem
 try with_reducible refine QZ ?_
 first|refine Qa (Qf ?_)|skip
 refine Qa (wpAny_sequenceKey ht.typeIs (by decide) ?_)
 refine Qa (Xh (name:=Str.ofString "__getitem__") ht.typeIs PyProof.Rows.slot_tuple_getitem
  (Q4 PyProof.Rows.slot_tuple_getitem ht.typeIs entry_tuple_getitem ?_ (args_tuple_getitem _ _)))
 show wpAny _ _ (Builtin.Tuple.tupleItemsOf (.ref t) >>= _) _ _ s;refine Qa (tupleItemsOf_ ht ?_);refine Qa (wpAny_typeOf hTs ?_);rw[Qs (by decide)];refine Qa (gI hs pl pu ?_)
 have hno:¬((((sIx items.size 0 lo:Nat):Int)==0&&(1:Int)==1&&(sIx items.size items.size hi-sIx items.size 0 lo)==items.size)=true):=by
  intro q;rw[Xz,Xz]at q;have q1:((sIx items.size 0 lo:Nat):Int)=0:=eq_of_beq q.1.1;have q2:sIx items.size items.size hi-sIx items.size 0 lo=items.size:=eq_of_beq q.2;exact hw ⟨by omega,by omega⟩
 show wpAny _ _ (if (((sIx items.size 0 lo:Nat):Int)==0&&(1:Int)==1&&(sIx items.size items.size hi-sIx items.size 0 lo)==items.size)=true then _ else _) _ _ s;rw[Qo hno,uC]
 first
  | exact Qa (m:=Builtin.Tuple.tupleExact _) (Xi (Qf ⟨_,rfl,Qf h⟩) htake)
  | exact Qa (m:=Builtin.Tuple.tupleExact _) (Xi (Qa (Qf (Qf ⟨_,rfl,Qf h⟩))) htake)
  | exact Qa (Qa (m:=Builtin.Tuple.tupleExact _) (Xi (Qf (Qf ⟨_,rfl,Qf h⟩)) htake))
  | exact Qa (Qa (m:=Builtin.Tuple.tupleExact _) (Xi (Qf ⟨_,rfl,Qf h⟩) htake))
end
end HT
namespace L2
open PySem PySem.Spec PyProof.Rows
abbrev TO:=St->Hp->(Option Int->Hp->Prop)->Prop
def PO (X:Cx) (e:Option Expr) (t:TO):Prop :=
 ∀(pins:B1) (s:Shared) (U:St) (H:Hp) (Q:Option Int->Hp->Prop),Inv X pins U H s->t U H Q ->
  wpAny (model X.prog X.w) X.A (evalPart e X.env) (λu s'=>∃o H',Inv X pins U H' s'/\IsPart u o/\Q o H') X.xe s
def qo:TO:=λ_ H Q=>Q none H
def xQ (t:TE):TO:=λU H Q=>t U H λx H1=>∃i,x=.int i/\Q (some i) H1
section
variable {X:Cx} {e:Expr} {te:TE} {lo hi:Option Expr} {tl th:TO} {pos p2:Pos}
theorem cB:PO X none qo:=by
 intro pins s U H Q I h;rw[evalPart_none];exact Qf ⟨none,H,I,.none,h⟩
theorem cA (h:PE X e te):PO X (some e) (xQ te):=by
 intro pins s U H Q I hw;rw[evalPart_some];refine thn (h pins s U H _ I hw) λu s1 ⟨x,H1,I1,r1,q1⟩=>?_;obtain⟨i,rfl,q⟩:=q1;obtain⟨t,rfl⟩:=r1;exact⟨some i,H1,I1,.int i t,q⟩
def SlR (X:Cx) (r:V->Option Int->Option Int->Hp->VK->Prop):Prop :=
 ∀(pins:B1) (s:Shared) (U:St) (H:Hp) (x:V) (v vl vu:Value) (lo hi:Option Int) (sl:Addr) (Q:VK),Inv X pins U H s->aL x v->s.heap.IsSliceOf sl vl vu .none->IsPart vl lo->IsPart vu hi->r x lo hi H Q ->
  ∃T id,typeLookup (.type T) "__getitem__" = pure (some (.builtin id))/\s.TypeIs v T/\wpAny (model X.prog X.w) X.A (getItem v (.ref sl)) (EP X pins U Q) X.xe s
def tSl (r:V->Option Int->Option Int->Hp->VK->Prop) (te:TE) (tl th:TO):TE:=λU H Q=>te U H λx H1=>tl U H1 λl H2=>th U H2 λu H3=>r x l u H3 Q
theorem bU {r:V->Option Int->Option Int->Hp->VK->Prop} (hr:SlR X r) (he:PE X e te) (hl:PO X lo tl) (hu:PO X hi th):PE X (.Subscript e (.Slice lo hi none p2) pos) (tSl r te tl th):=by
 intro pins s U H Q I h;refine Subscript_ (thn (he pins s U H _ I h) λv s1 ⟨x,H1,I1,r1,q1⟩=>?_);refine wpAny_Slice (thn (hl pins s1 U H1 _ I1 q1) λvl s2 ⟨l,H2,I2,pl,q2⟩=>thn (hu pins s2 U H2 _ I2 q2) λvu s3 ⟨u,H3,I3,pu,q3⟩=>?_);rw[evalPart_none];refine Qf ?_;have I4:Inv X pins U H3 { s3 with heap:=s3.heap.push { cls:=.type "slice", data:=.fields #[vl,vu,.none] } }:=I3.kept (t':=s3.toks) λb ob q=>Qc _ q;obtain⟨T,id,hT,ht,hg⟩:=hr pins { s3 with heap:=s3.heap.push { cls:=.type "slice", data:=.fields #[vl,vu,.none] } } U H3 x v vl vu l u s3.heap.objs.size Q I4 r1 (Heap.IsSliceOf.new ..) pl pu q3;show wpAny (model X.prog X.w) X.A (subscriptTail e (.Slice lo hi none p2) v (.ref s3.heap.objs.size)) (EP X pins U Q) X.xe { s3 with heap:=s3.heap.push { cls:=.type "slice", data:=.fields #[vl,vu,.none] } };exact tail_any (ops:=[.ref s3.heap.objs.size,v]) ht hT hg (by with_unfolding_all rfl)
def je (xs:List V) (lo hi:Option Int):List V:=(xs.drop (HT.sIx xs.length 0 lo)).take (HT.sIx xs.length xs.length hi-HT.sIx xs.length 0 lo)
theorem gZ (xs:List V) (lo hi:Option Int):(je xs lo hi).length<=xs.length:=by
 unfold je;rw[QO,XG];omega
def A_ (K:PySem.W.Frag):V->Option Int->Option Int->Hp->VK->Prop:=λx lo hi H Q=>∃a xs,x=.ref a/\SqT K H a xs /\
 ¬(HT.sIx xs.length 0 lo=0/\HT.sIx xs.length xs.length hi=xs.length)/\∀p,H p=none->Q (.ref p) (upd H p (.tup (je xs lo hi)))
theorem uf:SlR X (A_ X.K):=by
 intro pins s U H x v vl vu lo hi sl Q I rx hs pl pu h;obtain⟨a,xs,rfl,hx,hw,q⟩:=h;cases rx;obtain⟨its,r,ht,hz⟩:=I.tuple hx;have hlen:its.toArray.size=xs.length:=by rw[Ql];exact r.length.symm
 refine⟨"tuple", _,PyProof.Rows.slot_tuple_getitem.lookup,ht.typeIs,?_⟩;refine HT.gx ht hs pl pu (by rw[hlen];exact hw) ?_ (by rw[hlen];exact hz);rw[hlen];refine⟨.ref s.heap.objs.size,_,I.laid (t':=s.toks) (o:=.tup (je xs lo hi)) (λb ob q=>Qc _ q) (Qg _) ?_,rfl,q _ (I.hok.fresh (Qg _))⟩;exact⟨QJ (gZ xs lo hi) hz,_,(r.drop (HT.sIx xs.length 0 lo)).take (HT.sIx xs.length xs.length hi-HT.sIx xs.length 0 lo),IsTup.new _ _⟩
end
def ixN (n:Nat) (i:Int):Option Nat:=if 0<=i then (if i<n then some i.toNat else none) else if -(n:Int)<=i then some (i+n).toNat else none
def atI {α:Type} (xs:List α) (i:Int):Option α:=(ixN xs.length i).bind λj=>xs[j]?
theorem lx {n:Nat} {i:Int} {j:Nat} (h:ixN n i=some j):seqIndex? i n=some j/\j<n/\-(n:Int)<=i/\i<n:=by
 unfold ixN at h;by_cases h0:0<=i
 ·rw[Qs h0]at h;by_cases h1:i<n
  ·rw[Qs h1]at h;have e:i.toNat=j:=QF h;exact⟨by rw[seqIndex_of h0 h1,e],by omega,by omega,h1⟩
  rw[Qo h1]at h;cases h
 rw[Qo h0]at h;by_cases h1:-(n:Int)<=i
 ·rw[Qs h1]at h;have e:(i+n).toNat=j:=QF h;exact⟨by rw[seqIndex_neg (by omega) h1,e],by omega,h1,by omega⟩
 rw[Qo h1]at h;cases h
theorem lM {α:Type} {xs:List α} {i:Int} {v:α} (h:atI xs i=some v):∃j,seqIndex? i xs.length=some j/\xs[j]?=some v/\j<xs.length/\-(xs.length:Int)<=i/\i<xs.length:=by
 unfold atI at h
 cases e:ixN xs.length i with
 | none=>rw[e]at h;cases h
 | some j =>
 rw[e]at h;obtain⟨h1,h2,h3,h4⟩:=lx e;exact⟨j,h1,h,h2,h3,h4⟩
theorem bK {α:Type} {xs:List α} {j:Nat} {v:α} (h:xs[j]?=some v):atI xs (j:Int)=some v:=by
 have hj:j<xs.length:=(Qd.mp h).1
 have e:ixN xs.length (j:Int)=some j:=by
  unfold ixN;rw[Qs (by omega),Qs (by omega)];simp
 unfold atI;rw[e];exact h
def xL (b:Expr):Prop:=∀o i,subscripted b false o i=operate [o,i] (getItem o i)
def IxR (X:Cx) (r:R2):Prop :=
 ∀(value slice:Expr) (pins:B1) (s:Shared) (U:St) (H:Hp) (x y:V) (v u:Value) (Q:VK),Inv X pins U H s->aL x v->aL y u->r x y H Q ->
  subscripted slice false v u=operate [v,u] (getItem v u)->wpAny (model X.prog X.w) X.A (subscriptTail value slice v u) (EP X pins U Q) X.xe s
def MtR (X:Cx) (id:String) (r:V->List V->Hp->VK->Prop):Prop :=
 ∀(pins:B1) (s:Shared) (U:St) (H:Hp) (x:V) (xs:List V) (v:Value) (us:List Value) (Q:VK),Inv X pins U H s->aL x v->aQ xs us->r x xs H Q ->
  wpAny (model X.prog X.w) X.A (call (.builtin id) (v::us)) (EP X pins U Q) X.xe s
section
variable {X:Cx} {a b:Expr} {ta tb:TE} {pos:Pos}
theorem am {r:R2} (hr:IxR X r) (ha:PE X a ta) (hb:PE X b tb) (hs:xL b:=by exact λ_ _=>rfl):PE X (.Subscript a b pos) (tOp r ta tb):=by
 intro pins s U H Q I h;exact Subscript_ (zL ha hb I h λv u s2 x y H2 I2 rx ry q=>hr a b pins s2 U H2 x y v u Q I2 rx ry q (hs _ _))
def ww (K:PySem.W.Frag):R2:=λx y H Q=>∃p xs i v,x=.ref p/\y=.int i/\SqL K H p xs/\atI xs i=some v/\Q v H
def uu (K:PySem.W.Frag):R2:=λx y H Q=>∃p xs i v,x=.ref p/\y=.int i/\SqT K H p xs/\atI xs i=some v/\Q v H
def Am:R2:=λx y H Q=>∃z i c,x=.str z/\y=.int i/\z.length<=sizeLine/\atI z.cps.toList i=some c/\Q (.str ⟨#[c]⟩) H
theorem aX:IxR X (ww X.K):=by
 intro value slice pins s U H x y v u Q I rx ry h hs;obtain⟨p,xs,i,z,rfl,rfl,hq,he,q⟩:=h;cases rx;obtain⟨t,rfl⟩:=ry;obtain⟨its,r,pl,hz⟩:=I.list hq;obtain⟨j,h1,h2,h3,h4,h5⟩:=lM he;obtain⟨w,ew,rw'⟩:=r.get h2;have hl:=r.length;have hn:=gR;have fin:EP X pins U Q w s:=⟨z,H,I,rw',q⟩;by_cases h0:0<=i
 ·have hj:i.toNat=j:=by
   rw[seqIndex_of h0 h5]at h1;exact QF h1
  exact item_listR pl.isList h0 (by omega) (by rw[hj];simpa using ew) fin hs
 have hj:(i+(its.toArray.size:Int)).toNat=j:=by
  rw[seqIndex_neg (by omega) h4]at h1;rw[Ql,<-hl];exact QF h1
 exact subscriptTail_builtinR (x:=w) pl.isList.typeIs slot_list_getitem.lookup
  (wpAny_getItem_list_neg (Q:=λr s'=>r=w/\EP X pins U Q r s') pl.isList (by omega) (by rw[Ql] <;> omega) (by omega) (by rw[hj];simpa using ew) ⟨rfl,fin⟩) hs
theorem aA:IxR X (uu X.K):=by
 intro value slice pins s U H x y v u Q I rx ry h hs;obtain⟨p,xs,i,z,rfl,rfl,hq,he,q⟩:=h;cases rx;obtain⟨t,rfl⟩:=ry;obtain⟨its,r,pl,hz⟩:=I.tuple hq;obtain⟨j,h1,h2,h3,h4,h5⟩:=lM he;obtain⟨w,ew,rw'⟩:=r.get h2;have hl:=r.length;have hn:=gR;have fin:EP X pins U Q w s:=⟨z,H,I,rw',q⟩
 exact subscriptTail_builtinR (x:=w) pl.typeIs slot_tuple_getitem.lookup
  (getItem_tuple (j:=j) (Q:=λr s'=>r=w/\EP X pins U Q r s') pl (by omega) (by omega) (by rw[Ql,<-hl];exact h1) (by simpa using ew) ⟨rfl,fin⟩) hs
theorem dD:IxR X Am:=by
 intro value slice pins s U H x y v u Q I rx ry h hs;obtain⟨z,i,c,rfl,rfl,hz,he,q⟩:=h;obtain⟨t,rfl⟩:=rx;obtain⟨t',rfl⟩:=ry;obtain⟨j,h1,h2,h3,h4,h5⟩:=lM he;have hl:z.cps.toList.length=z.length:=by simp[Str.length]
 rw[hl]at h1 h4 h5;have hn:=gR
 exact tail_any (typeIs_str s z t) slot_str_getitem.lookup (getItem_str (c:=c) (by
  have e1:decide (i < -(2 ^ 63:Int))=false:=Qu (by omega);have e2:decide (i>=2 ^ 63)=false:=Qu (by omega)
  rw[e1,e2,Bool.or_false]) (by rw[h1];simpa using h2) ⟨.str ⟨#[c]⟩,H,I.tok _,⟨_,rfl⟩,q⟩) hs
theorem pG (its:List Value) (n j:Nat) (u:Value):Obj.mapSeq (·.setIfInBounds j u) { cls:=.type "list", data:=.seq its.toArray n }={ cls:=.type "list", data:=.seq (its.set j u).toArray n }:=by
 simp[Obj.mapSeq]
variable {s:Shared} {pins:B1}
theorem Inv.lst {U:St} {H:Hp} {p:Addr} {xs:List V} (I:Inv X pins U H s) (h:H p=some (.lst xs)) :
  ∃(its:List Value) (n:Nat),aQ xs its/\s.heap.get? p=some { cls:=.type "list", data:=.seq its.toArray n }/\xs.length<=sizeLine:=by
 obtain⟨z,its,n,r,e⟩:=I.hok p _ h;exact⟨its,n,r,e,z⟩
theorem Inv.lstUpd {U:St} {H:Hp} {p:Addr} {xs ys:List V} {its its':List Value} {n n':Nat} {f:Obj->Obj} (I:Inv X pins U H s) (h:H p=some (.lst xs))
  (ho:s.heap.get? p=some { cls:=.type "list", data:=.seq its.toArray n }) (hf:f { cls:=.type "list", data:=.seq its.toArray n }={ cls:=.type "list", data:=.seq its'.toArray n' }) (r:aQ ys its') (hz:ys.length<=sizeLine) (t:Nat) :
  Inv X pins U (upd H p (.lst ys)) { s with heap:=s.heap.update p f,toks:=t }:=by
 have e:(s.heap.update p f).get? p=some { cls:=.type "list", data:=.seq its'.toArray n' }:=by
  rw[Xm f ho (by rw[hf] <;> rfl),hf]
 refine I.write (x:=p) (e:=p) (by rw[h];trivial) (.inl rfl) (λb u hb q=>(Xq _ _ (Ne.symm hb)).trans q) ⟨_,e⟩ ?_;exact⟨hz,its',n',r,e⟩
def yd:V->V->V->Hp->(Hp->Prop)->Prop:=λo i v H Q=>∃p xs k j,o=.ref p/\i=.int k/\H p=some (.lst xs)/\ixN xs.length k=some j/\Q (upd H p (.lst (xs.set j v)))
theorem mj:A4 X yd:=by
 intro pins s U H o i v ov iv u Q I ro ri rv h;obtain⟨p,xs,k,j,rfl,rfl,hp,hj,q⟩:=h;cases ro;obtain⟨t,rfl⟩:=ri;obtain⟨its,n,r,ho,hz⟩:=I.lst hp;obtain⟨h1,h2,h3,h4⟩:=lx hj;have hl:=r.length;have hn:=gR
 have I':Inv X pins U (upd H p (.lst (xs.set j v))) { s with heap:=s.heap.update p (Obj.mapSeq (·.setIfInBounds j u)) } :=
  I.lstUpd hp ho (pG its n j u) (r.set rv j) (by rw[List.length_set];exact hz) s.toks
 by_cases h0:0<=k
 ·have hk:k.toNat=j:=by
   rw[seqIndex_of h0 h4]at h1;exact QF h1
  exact PySem.W.ki_setAt ho h0 (by omega) (by rw[Ql,<-hl];exact h4) (by rw[hk];exact⟨_,I',q⟩)
 have hk:(k+(its.toArray.size:Int)).toNat=j:=by
  rw[seqIndex_neg (by omega) h3]at h1;rw[Ql,<-hl];exact QF h1
 exact PySem.W.ki_setBack ho (by omega) (by rw[Ql,<-hl];exact h3) (by omega) (by rw[hk];exact⟨_,I',q⟩)
theorem x_ (i:Int) (n:Nat):max 0 (min (if i<0 then i+(n:Int) else i) (n:Int))=(((if i<0 then (i+(n:Int)).toNat else min i.toNat n):Nat):Int):=by
 by_cases h:i<0
 ·rw[Qs h,Qs h,Int.min_eq_left (by omega)];omega
 obtain⟨k,rfl⟩:=Int.eq_ofNat_of_zero_le (Int.not_lt.mp h);rw[Qo h,Qo h,Q7];omega
theorem kN (lo hi:Option Int) (n:Nat):(sliceBounds lo hi none n).1=((HT.sIx n 0 lo:Nat):Int)/\(sliceBounds lo hi none n).2.1=((HT.sIx n n hi:Nat):Int)/\(sliceBounds lo hi none n).2.2=1:=by
 refine⟨?_,?_,rfl⟩
 ·cases lo with
  | none=>simp[sliceBounds,HT.sIx]
  | some i =>
   simp only[sliceBounds,HT.sIx,Option.getD_none,show (1:Int)>0 by decide,if_true];exact x_ i n
 cases hi with
 | none=>simp[sliceBounds,HT.sIx]
 | some i =>
 simp only[sliceBounds,HT.sIx,Option.getD_none,show (1:Int)>0 by decide,if_true];exact x_ i n
theorem jt (its:List Value) (lo hi:Option Int):slicePick its.toArray lo hi none=((its.drop (HT.sIx its.length 0 lo)).take (HT.sIx its.length its.length hi-HT.sIx its.length 0 lo)).toArray:=by
 obtain⟨h1,h2,h3⟩:=kN lo hi its.toArray.size;unfold slicePick;rw[h1,h2,h3];simp only[sliceRange_one,pick_run,Ql] <;> rfl
def Aj (K:PySem.W.Frag):V->Option Int->Option Int->Hp->VK->Prop:=λx lo hi H Q=>∃a xs,x=.ref a/\SqL K H a xs/\∀p,H p=none->Q (.ref p) (upd H p (.lst (je xs lo hi)))
theorem qH:SlR X (Aj X.K):=by
 intro pins s U H x v vl vu lo hi sl Q I rx hs pl pu h;obtain⟨a,xs,rfl,hx,q⟩:=h;cases rx;obtain⟨its,r,ht,hz⟩:=I.list hx;have hlen:=r.length;refine⟨"list", _,slot_list_getitem.lookup,ht.isList.typeIs,?_⟩;refine wpAny_getItem_list_slice ht.isList hs pl pu .none (by simp) ?_ (by rw[Ql] <;> omega);rw[jt,<-hlen];refine⟨.ref s.heap.objs.size,_,I.laid (t':=s.toks) (o:=.lst (je xs lo hi)) (λb ob q=>Qc _ q) (Qg _) ?_,rfl,q _ (I.hok.fresh (Qg _))⟩;exact⟨QJ (gZ xs lo hi) hz,_,0,(r.drop (HT.sIx xs.length 0 lo)).take (HT.sIx xs.length xs.length hi-HT.sIx xs.length 0 lo),Qt _ rfl⟩
def bY:V->Bool
 | .non=>true
 | .bl _=>true
 | .int _=>true
 | .str _=>true
 | _=>false
def eqV:V->V->Bool
 | .non,.non=>true
 | .bl a,.bl b=>a==b
 | .bl a,.int b=>(if a then 1 else 0)==b
 | .int a,.bl b=>a==(if b then 1 else 0)
 | .int a,.int b=>a==b
 | .str a,.str b=>a==b
 | _,_=>false
variable {u v:Value}
theorem vU {A:Around} {y x:V} (ry:aL y u) (rx:aL x v) (fy:bY y=true) (fx:bY x=true):SeqAt.EqAt A s u v (eqV y x):=by
 cases y with
 | non =>
  cases ry
  cases x with
  | non=>cases rx;exact SeqAt.EqAt.same _
  | bl b=>cases rx;exact SeqAt.EqAt.none_bool b
  | int b=>obtain⟨t,rfl⟩:=rx;exact SeqAt.EqAt.none_int b t
  | str b=>obtain⟨t,rfl⟩:=rx;exact SeqAt.EqAt.none_str b t
  | _=>exact absurd (show false=true from fx) Qr
 | bl a =>
  cases ry
  cases x with
  | non=>cases rx;exact SeqAt.EqAt.bool_none a
  | bl b=>cases rx;exact SeqAt.EqAt.bool_bool a b
  | int b=>obtain⟨t,rfl⟩:=rx;exact SeqAt.EqAt.bool_int a b t
  | str b=>obtain⟨t,rfl⟩:=rx;exact SeqAt.EqAt.bool_str a b t
  | _=>exact absurd (show false=true from fx) Qr
 | int a =>
  obtain⟨t',rfl⟩:=ry
  cases x with
  | non=>cases rx;exact SeqAt.EqAt.int_none a t'
  | bl b=>cases rx;exact SeqAt.EqAt.int_bool a t' b
  | int b=>obtain⟨t,rfl⟩:=rx;exact SeqAt.EqAt.int_int a t' b t
  | str b=>obtain⟨t,rfl⟩:=rx;exact SeqAt.EqAt.int_str a t' b t
  | _=>exact absurd (show false=true from fx) Qr
 | str a =>
  obtain⟨t',rfl⟩:=ry
  cases x with
  | non=>cases rx;exact SeqAt.EqAt.str_none a t'
  | bl b=>cases rx;exact SeqAt.EqAt.str_bool a t' b
  | int b=>obtain⟨t,rfl⟩:=rx;exact SeqAt.EqAt.str_int a t' b t
  | str b=>obtain⟨t,rfl⟩:=rx;exact SeqAt.EqAt.str_str a t' b t
  | _=>exact absurd (show false=true from fx) Qr
 | _=>exact absurd (show false=true from fy) Qr
def eqU (x:V) (u:Value):Bool:=match u with
 | .none=>eqV .non x
 | .bool b=>eqV (.bl b) x
 | .int i _=>eqV (.int i) x
 | .str z _=>eqV (.str z) x
 | _=>false
theorem vT {x y:V} (r:aL y u) (f:bY y=true):eqU x u=eqV y x:=by
 cases y with
 | non=>cases r;rfl
 | bl b=>cases r;rfl
 | int i=>obtain⟨t,rfl⟩:=r;rfl
 | str z=>obtain⟨t,rfl⟩:=r;rfl
 | _=>exact absurd (show false=true from f) Qr
theorem gC {x:V}:∀{xs:List V} {us:List Value},aQ xs us->xs.all bY=true->us.any (eqU x)=xs.any λy=>eqV y x
 | _,_,.nil,_=>rfl
 | y::xs,u::us,.cons r t,f=>by
  rw[List.all_cons,Xz]at f;rw[List.any_cons,List.any_cons,vT r f.1,gC t f.2]
theorem fb {A:Around} {s:Shared} {x:V} {v:Value} (rx:aL x v) (fx:bY x=true):∀{xs:List V} {us:List Value},aQ xs us->xs.all bY=true->∀u∈us,SeqAt.EqAt A s u v (eqU x u)
 | _,_,.nil,_=>λu hu=>by cases hu
 | y::xs,u::us,.cons r t,f=>λu' hu=>by
  rw[List.all_cons,Xz]at f;rcases Qj.mp hu with rfl|hu
  ·rw[vT r f.1];exact vU r rx f.1 fx
  exact fb rx fx t f.2 u' hu
def inV (x:V) (xs:List V):Bool:=xs.any λy=>eqV y x
def rIn (K:PySem.W.Frag) (neg:Bool):R2:=λx y H Q=>∃p xs,y=.ref p/\(SqL K H p xs\/SqT K H p xs)/\bY x=true/\xs.all bY=true/\Q (.bl (if neg then !inV x xs else inV x xs)) H
theorem df:OpR X (compareOp .In) (rIn X.K false):=by
 intro pins s U H x y v u Q I rx ry h;obtain⟨p,xs,rfl,hq,fx,fs,q⟩:=h;cases ry;rcases hq with hq|hq
 ·obtain⟨its,r,pl,hz⟩:=I.list hq;refine SeqAt.in_listAt (eqU x) pl.isList (λw hw=>fb rx fx r fs w (by simpa using hw)) ⟨.bl _,H,I,rfl,?_⟩;rw[show its.toArray.any (eqU x)=its.any (eqU x) by simp,gC r fs];exact q
 obtain⟨its,r,pl,hz⟩:=I.tuple hq;refine SeqAt.in_tupleAt (eqU x) pl (λw hw=>fb rx fx r fs w (by simpa using hw)) ⟨.bl _,H,I,rfl,?_⟩;rw[show its.toArray.any (eqU x)=its.any (eqU x) by simp,gC r fs];exact q
theorem gg:OpR X (compareOp .NotIn) (rIn X.K true):=by
 intro pins s U H x y v u Q I rx ry h;obtain⟨p,xs,rfl,hq,fx,fs,q⟩:=h;cases ry;rcases hq with hq|hq
 ·obtain⟨its,r,pl,hz⟩:=I.list hq;refine SeqAt.notIn_listAt (eqU x) pl.isList (λw hw=>fb rx fx r fs w (by simpa using hw)) ⟨.bl _,H,I,rfl,?_⟩;rw[show its.toArray.any (eqU x)=its.any (eqU x) by simp,gC r fs];exact q
 obtain⟨its,r,pl,hz⟩:=I.tuple hq;refine SeqAt.notIn_tupleAt (eqU x) pl (λw hw=>fb rx fx r fs w (by simpa using hw)) ⟨.bl _,H,I,rfl,?_⟩;rw[show its.toArray.any (eqU x)=its.any (eqU x) by simp,gC r fs];exact q
theorem ay:dG X (.builtin "len") (λxs H Q=>∃p ys,xs=[.ref p]/\(SqL X.K H p ys\/SqT X.K H p ys)/\Q (.int ys.length) H):=by
 intro pins s U H xs us Q I r h;obtain⟨p,ys,rfl,hq,q⟩:=h;obtain⟨u,rfl,rx⟩:=cZ r;cases rx;have hn:=gR;rcases hq with hq|hq
 ·obtain⟨its,r',pl,hz⟩:=I.list hq;have hlen:=r'.length;exact Calls.call_len_list pl.isList (by simp only[Ql] <;> omega) ⟨.int ys.length,H,I.tok _,⟨s.toks+1,by rw[Ql,hlen]⟩,q⟩
 obtain⟨its,r',pl,hz⟩:=I.tuple hq;have hlen:=r'.length;exact len_tuple pl (by simp only[Ql] <;> omega) ⟨.int ys.length,H,I.tok _,⟨s.toks+1,by rw[Ql,hlen]⟩,q⟩
theorem eM:dG X (.builtin "len") (λxs H Q=>∃z,xs=[.str z]/\z.length<=sizeLine/\Q (.int z.length) H):=by
 intro pins s U H xs us Q I r h;obtain⟨z,rfl,hz,q⟩:=h;obtain⟨u,rfl,t,rfl⟩:=cZ r;have hn:=gR;exact len_str (by omega) ⟨.int z.length,H,I.tok _,⟨_,rfl⟩,q⟩
theorem eL:dG X (.type "list") (λxs H Q=>∃p ys,xs=[.ref p]/\(SqL X.K H p ys\/SqT X.K H p ys)/\∀l,H l=none->Q (.ref l) (upd H l (.lst ys))):=by
 intro pins s U H xs us Q I r h;obtain⟨p,ys,rfl,hq,q⟩:=h;obtain⟨u,rfl,rx⟩:=cZ r;cases rx
 have fin:∀(its:List Value),aQ ys its->ys.length<=sizeLine->∀(h':Heap) (c':Nat),(∀b o',s.heap.get? b=some o'->h'.get? b=some o') ->
   h'.get? s.heap.objs.size=some { cls:=.type "list", dict:=none,data:=.seq its.toArray c',slots:=#[] }->EP X pins U Q (.ref s.heap.objs.size) { s with heap:=h' }:=λits r' hz h' c' kp e =>
  ⟨.ref s.heap.objs.size,_,I.laid (t':=s.toks) kp (Qg _) (show be X.prog X.w _ h' _ (.lst ys) from⟨hz,its,c',r',e⟩),rfl,q _ (I.hok.fresh (Qg _))⟩
 rcases hq with hq|hq
 ·obtain⟨its,r',pl,hz⟩:=I.list hq;have hlen:=r'.length;obtain⟨o,ho,hc,n,hd⟩:=pl.isList;exact call_list_seq p (.inl rfl) ho hc hd (λh' c' kp e=>fin its r' hz h' c' kp e) (by simp only[Ql] <;> omega)
 obtain⟨its,r',pl,hz⟩:=I.tuple hq;have hlen:=r'.length;obtain⟨o,ho,hc,n,hd⟩:=pl;exact call_list_seq p (.inr rfl) ho hc hd (λh' c' kp e=>fin its r' hz h' c' kp e) (by simp only[Ql] <;> omega)
theorem fL:dG X (.type "tuple") (λxs H Q=>∃p ys,xs=[.ref p]/\((SqL X.K H p ys/\∀l,H l=none->Q (.ref l) (upd H l (.tup ys)))\/(SqT X.K H p ys/\Q (.ref p) H))):=by
 intro pins s U H xs us Q I r h;obtain⟨p,ys,rfl,h⟩:=h;obtain⟨u,rfl,rx⟩:=cZ r;cases rx;rcases h with⟨hq,q⟩|⟨hq,q⟩
 ·obtain⟨its,r',pl,hz⟩:=I.list hq;have hlen:=r'.length;refine call_tuple_list pl.isList (λh' kp=>?_) (by simp only[Ql] <;> omega);have I1:Inv X pins U H { s with heap:=h' }:=I.kept (t':=s.toks) kp
  have I2:Inv X pins U (upd H h'.objs.size (.tup ys)) { s with heap:=h'.push { cls:=.type "tuple", data:=.seq its.toArray } } :=
   I1.laid (t':=s.toks) (λb o e=>Qc _ e) (Qg _) (show be X.prog X.w _ _ _ (.tup ys) from⟨hz,its,r',IsTup.new _ _⟩)
  exact⟨.ref h'.objs.size,_,I2,rfl,q _ (I1.hok.fresh (Qg _))⟩
 obtain⟨its,r',pl,hz⟩:=I.tuple hq;exact call_tuple_same pl ⟨.ref p,H,I,rfl,q⟩
def tyV (K:PySem.W.Frag) (T:String) (x:V) (H:Hp):Prop:=match x with
 | .str _=>T = "str"
 | .int _=>T = "int"
 | .ref p=>(T = "list" /\ ∃xs,SqL K H p xs)\/(T = "tuple" /\ ∃o,K.lookup p=some o/\o.cls=.type "tuple" /\ o.dict=none) \/
   (T = "dict" /\ ((∃kvs,H p=some (.dK kvs))\/∃kvs,H p=some (.dT kvs)))\/(T = "set" /\ ∃S n,H p=some (.set S n))
 | _=>False
theorem yD {U:St} {H:Hp} {T:String} {x:V} (I:Inv X pins U H s) (r:aL x v) (ty:tyV X.K T x H) :
  s.TypeIs v T/\∀a,v=.ref a->∃ob,s.heap.get? a=some ob/\ob.dict=none:=by
 cases x with
 | str z =>
  obtain⟨t,rfl⟩:=r;cases (show T = "str" from ty);exact⟨typeIs_str s z t,λ_ e=>nomatch e⟩
 | int i =>
  obtain⟨t,rfl⟩:=r;cases (show T = "int" from ty);exact⟨typeIs_int s i t,λ_ e=>nomatch e⟩
 | ref p =>
  cases r;rcases ty with⟨rfl,xs,hq⟩|⟨rfl,o,hk,hc,hd⟩|⟨rfl,hk⟩|⟨rfl,S,n,hk⟩
  ·obtain⟨its,_,pl,_⟩:=I.list hq;refine⟨pl.isList.typeIs,λa e=>?_⟩;cases e;obtain⟨o,n,e,c,hd,_⟩:=pl;exact⟨o,e,hd⟩
  ·refine⟨⟨o,I.kIn p o hk,hc⟩,λa e=>?_⟩;cases e;exact⟨o,I.kIn _ o hk,hd⟩
  ·have z:∃o,s.heap.get? p=some o/\o.ExactDict:=by
    rcases hk with⟨kvs,hk⟩|⟨kvs,hk⟩
    ·obtain⟨_,_,_,_,o,_,_,e,ex,_⟩:=I.hok p _ hk;exact⟨o,e,ex⟩
    obtain⟨_,_,_,_,o,_,_,e,ex,_⟩:=I.hok p _ hk;exact⟨o,e,ex⟩
   obtain⟨o,e,ex⟩:=z;refine⟨⟨o,e,ex.1⟩,λa e2=>?_⟩;cases e2;exact⟨o,e,ex.2.1⟩
  obtain⟨o,_,_,_,e,ex,_⟩:=I.hok p _ hk;refine⟨⟨o,e,ex.1⟩,λa e2=>?_⟩;cases e2;exact⟨o,e,ex.2.1⟩
 | _=>exact False.elim ty
def tBM (K:PySem.W.Frag) (T:String) (r:V->List V->Hp->VK->Prop) (to:TE) (t:TA):TE:=λU H Q=>to U H λx H1=>tyV K T x H1/\t U H1 λxs H2=>r x xs H2 Q
variable {o e:Expr} {es:List Expr} {to:TE} {t:TA} {name:Str} {apos cpos:Pos} {T id:String} {r:V->List V->Hp->VK->Prop}
theorem bO (pa:PlainAttrs T) (slot:Slot T name id) (hty:typeOf (.builtin id)=pure (.type "method_descriptor")) (hm:MtR X id r) (ho:PE X o to) (ha:PA X (e::es) t)
  (hbase:attributeBase o name X.env (eval o X.env)=eval o X.env:=by rfl)
  (hfew:((backTo cpos (starEach (e::es) X.env)).all (fun x=>!x.1)&&(backToKw cpos (keywordEach [] X.env)).all (fun x=>x.1.isSome)
   && decide ((e::es).length+([]:List Keyword).length+(if ([]:List Keyword).isEmpty then 0 else 1)<30))=true:=by rfl)
  (hline:(apos.endLine==cpos.line)=true:=by rfl) (hs:starEach (e::es) X.env=(false,eval e X.env)::starEach es X.env:=by rfl) (hplain:(backTo cpos (starEach es X.env)).any (·.1)=false:=by rfl) :
  PE X (.Call (.Attribute o name apos) (e::es) [] cpos) (tBM X.K T r to t):=by
 intro pins s U H Q I h;refine wpAny_Call_method_late hbase hfew hline rfl (thn (ho pins s U H _ I h) λv s1 ⟨x,H1,I1,r1,ty,q1⟩=>?_);obtain⟨h1,h2⟩:=yD I1 r1 ty;refine⟨T,id,pa,slot,hty,h1,h2,?_⟩;have hA:=ha cpos pins s1 U H1 _ I1 q1;rw[hs]at hA ⊢;refine Calls.callWith_builtin (by show (false || (backTo cpos (starEach es X.env)).any (·.1))=false;rw[hplain] <;> rfl) (Calls.evalArgs_plain ?_);exact thn hA λus s2 ⟨vs,H2,I2,r2,q2⟩=>hm pins s2 U H2 x vs v us Q I2 r1 r2 q2
end
def MtM (X:Cx) (id:String) (r:V->List V->Hp->VK->Prop):Prop :=
 ∀(pins:B1) (s:Shared) (U:St) (H:Hp) (x:V) (xs:List V) (v:Value) (us:List Value) (Q:VK),Inv X pins U H s->aL x v->aQ xs us->r x xs H Q ->
  wpAny (model X.prog X.w) X.A (call (.builtin id) (v::us)) (EP X pins U Q) X.xe s
theorem aQ.one:∀{x:V} {us:List Value},aQ [x] us->∃u,us=[u]/\aL x u
 | _,_,.cons r .nil=>⟨_,rfl,r⟩
theorem aQ.two:∀{x y:V} {us:List Value},aQ [x,y] us->∃u v,us=[u,v]/\aL x u/\aL y v
 | _,_,_,.cons r (.cons q .nil)=>⟨_,_,rfl,r,q⟩
theorem aQ.eraseIdx:∀{xs:List V} {us:List Value} (i:Nat),aQ xs us->aQ (xs.eraseIdx i) (us.eraseIdx i)
 | _,_,_,.nil=>.nil
 | _,_,0,.cons _ t=>t
 | _,_,i+1,.cons r t=>.cons r (aQ.eraseIdx i t)
theorem j3 {α:Type}:∀(l:List α) (i:Nat),(l.eraseIdx i).length<=l.length
 | [],_=>Qg _
 | _::_,0=>X3 _
 | _::r,i+1=>Nat.succ_le_succ (j3 r i)
section
variable {X:Cx} {pins:B1} {U:St} {H:Hp} {s:Shared} {l b:Addr} {xs ys zs:List V}
theorem Inv.lset {its its':List Value} {n:Nat} {f:Array Value->Array Value} {t':Nat} (I:Inv X pins U H s) (hH:H l=some (.lst xs))
  (e:s.heap.get? l=some { cls:=.type "list", data:=.seq its.toArray n }) (hf:f its.toArray=its'.toArray) (hv:aQ ys its') (hz:ys.length<=sizeLine) :
  Inv X pins U (upd H l (.lst ys)) { s with heap:=s.heap.update l (Obj.mapSeq f),toks:=t' }:=by
 have q:=PySem.IsL.update e f;rw[hf]at q;refine I.write (x:=l) (e:=l) (by rw[hH];exact trivial) (.inl rfl) (λb' u hb hu=>(Xq s.heap (Obj.mapSeq f) (Ne.symm hb)).trans hu) ⟨_,q⟩ ?_;exact⟨hz,its',_,hv,q⟩
theorem Inv.lnew {its:List Value} {t':Nat} (I:Inv X pins U H s) (hv:aQ ys its) (hz:ys.length<=sizeLine) :
  Inv X pins U (upd H s.heap.objs.size (.lst ys)) { s with heap:=s.heap.push { cls:=.type "list", data:=.seq its.toArray },toks:=t' } :=
 I.laid (λ_ _ q=>Qc _ q) (Qg _) ⟨hz,its,0,hv,Qt _ rfl⟩
theorem Inv.fresh (I:Inv X pins U H s):H s.heap.objs.size=none:=I.hok.fresh (Qg _)
theorem Inv.lstM (I:Inv X pins U H s) (hH:H l=some (.lst xs)):xs.length<=sizeLine/\∃(its:List Value) (n:Nat),aQ xs its/\xs.length=its.length/\s.heap.get? l=some { cls:=.type "list", data:=.seq its.toArray n }:=by
 obtain⟨z,its,n,r,e⟩:=I.hok l _ hH;exact⟨z,its,n,r,r.length,e⟩
end
section
variable {X:Cx}
def qQ:V->List V->Hp->VK->Prop:=λx vs H Q=>∃l xs y,x=.ref l/\vs=[y]/\H l=some (.lst xs)/\xs.length<sizeLine/\Q .non (upd H l (.lst (xs++[y])))
theorem bt:MtM X "list.append" qQ:=by
 intro pins s U H x vs v us Q I rx rv h;obtain⟨l,xs,y,rfl,rfl,hH,hz,q⟩:=h;cases rx;obtain⟨u,rfl,ru⟩:=rv.one;obtain⟨z,its,n,r,hl,e⟩:=I.lstM hH;refine call_meets F.slot_list_append ⟨_,e,rfl⟩ F.entry_list_append (F.args_list_append_2 _ _) (PySem.list_append l its.toArray n u (by rw[Ql];omega)) ⟨e,?_⟩;refine⟨.non,_,I.lset (its':=its++[u]) hH e (by simp) (r.append (.cons ru .nil)) ?_,rfl,q⟩;rw[Qh,QP];omega
def yR:V->List V->Hp->VK->Prop:=λx vs H Q=>∃l xs i k y,x=.ref l/\vs=[.int i]/\H l=some (.lst xs)/\-(2 ^ 63)<=i/\i<2 ^ 63/\seqIndex? i xs.length=some k/\xs[k]?=some y/\Q y (upd H l (.lst (xs.eraseIdx k)))
theorem u8:MtM X "list.pop" yR:=by
 intro pins s U H x vs v us Q I rx rv h;obtain⟨l,xs,i,k,y,rfl,rfl,hH,h1,h2,hk,hy,q⟩:=h;cases rx;obtain⟨u,rfl,ru⟩:=rv.one;obtain⟨t,rfl⟩:=ru;obtain⟨z,its,n,r,hl,e⟩:=I.lstM hH;obtain⟨w,hw,rw'⟩:=r.get hy
 refine call_meets F.slot_list_pop ⟨_,e,rfl⟩ F.entry_list_pop (F.args_list_pop_2 _ _)
  (MeetsSeq.list_pop_at l its.toArray n i t k w (fitsIndex_both h1 h2) (by rw[Ql,<-hl];exact hk) (by rw[<-Q6];exact hw) (by rw[Ql];omega)) ⟨e,?_⟩
 refine⟨y,_,I.lset (its':=its.eraseIdx k) hH e ?_ (r.eraseIdx k) ?_,rw',q⟩
 ·show its.toArray.eraseIdxIfInBounds k=(its.eraseIdx k).toArray;rw[List.eraseIdxIfInBounds_toArray]
 have:=j3 xs k;omega
def yU:R2:=λx y H Q=>∃l b xs zs,x=.ref l/\y=.ref b/\H l=some (.lst xs)/\H b=some (.lst zs)/\xs.length+zs.length<=sizeLine/\∀p,H p=none->Q (.ref p) (upd H p (.lst (xs++zs)))
theorem eD:OpR X (binaryOp .Add) yU:=by
 intro pins s U H x y v u Q I rx ry h;obtain⟨l,b,xs,zs,rfl,rfl,hH,hB,hz,q⟩:=h;cases rx;cases ry;obtain⟨z,its,n,r,hl,e⟩:=I.lstM hH;obtain⟨z2,its2,n2,r2,hl2,e2⟩:=I.lstM hB;refine PySem.P.add_list e e2 ?_ (by rw[Ql,Ql];omega);have ea:its.toArray++its2.toArray=(its++its2).toArray:=by simp
 rw[ea];exact⟨.ref _,_,I.lnew (t':=s.toks) (r.append r2) (by rw[Qh];omega),rfl,q _ I.fresh⟩
end
section
variable {prog:Program} {w:World} {A:Around} {E:B0} {s:Shared}
end
section
variable {X:Cx}
end
section
variable {κ:Type} [DecidableEq κ]
def aU (kvs:List (κ × V)) (k:κ):Option V:=(kvs.find? λkv=>decide (kv.1=k)).map (·.2)
def bv (kvs:List (κ × V)) (k:κ) (v:V):List (κ × V) :=
 if (kvs.any λkv=>decide (kv.1=k))=true then kvs.map (λkv=>if kv.1=k then (kv.1,v) else kv) else kvs++[(k,v)]
variable {r kvs:List (κ × V)}
theorem bz {p:κ × V} {k:κ} (e:p.1=k):aU (p::r) k=some p.2:=by simp[aU,List.find?_cons,e]
theorem bD {p:κ × V} {k:κ} (e:¬p.1=k):aU (p::r) k=aU r k:=by simp[aU,List.find?_cons,e]
theorem cS (k:κ):∀kvs:List (κ × V),(kvs.any λkv=>decide (kv.1=k))=(aU kvs k).isSome
 | []=>rfl
 | p::r=>by
  rw[List.any_cons];by_cases e:p.1=k
  ·simp only[bz e,Qv e,Bool.true_or,Option.isSome_some]
  rw[bD e,Qu e,Bool.false_or];exact cS k r
theorem lW (k j:κ) (y:V):∀kvs:List (κ × V),aU (kvs.map λkv=>if kv.1=k then (kv.1,y) else kv) j=(aU kvs j).map λx=>if j=k then y else x
 | []=>rfl
 | p::r=>by
  have ih:=lW k j y r;rw[Qw];by_cases h:p.1=k
  ·rw[Qs h];by_cases e:p.1=j
   ·rw[bz (p:=(p.1,y)) e,bz e,Option.map_some,Qs (e.symm.trans h)]
   rw[bD (p:=(p.1,y)) e,bD e,ih]
  rw[Qo h];by_cases e:p.1=j
  ·rw[bz (p:=p) e,bz e,Option.map_some,Qo (λz=>h (e.trans z))]
  rw[bD (p:=p) e,bD e,ih]
theorem jE (k j:κ) (y:V):∀kvs:List (κ × V),aU kvs k=none->aU (kvs++[(k,y)]) j=if j=k then some y else aU kvs j
 | [],_=>by
  by_cases e:k=j
  ·rw[Qs e.symm];exact bz (p:=(k,y)) e
  rw[Qo (λz=>e z.symm)];exact bD (p:=(k,y)) e
 | p::r,hn=>by
  rw[List.cons_append];have hk:¬p.1=k:=λz=>by rw[bz z]at hn;cases hn
  rw[bD hk]at hn;have ih:=jE k j y r hn;by_cases e:p.1=j
  ·rw[bz e,bz e,Qo (λz=>hk (e.trans z))]
  rw[bD e,bD e,ih]
theorem cR (kvs:List (κ × V)) (k j:κ) (y:V):aU (bv kvs k y) j=if j=k then some y else aU kvs j:=by
 unfold bv;by_cases a:(kvs.any λkv=>decide (kv.1=k))=true
 ·rw[Qs a,lW];rw[cS]at a;by_cases e:j=k
  ·obtain⟨x,hx⟩:=Option.isSome_iff_exists.mp a;rw[Qs e,e,hx,Option.map_some,Qs rfl]
  rw[Qo e]
  cases aU kvs j with
  | none=>rfl
  | some x=>rw[Option.map_some,Qo e]
 rw[Qo a];refine jE k j y kvs ?_;rw[cS]at a
 cases q:aU kvs k with
 | none=>rfl
 | some x=>rw[q]at a;exact(a rfl).elim
theorem bX (kvs:List (κ × V)) (k:κ) (v:V):(bv kvs k v).length<=kvs.length+1:=by
 unfold bv
 split
 ·rw[Qb];omega
 rw[Qh,XA,List.length_nil];omega
theorem eX {k:κ} (v:V) (h:aU kvs k=none):bv kvs k v=kvs++[(k,v)]:=by
 unfold bv;rw[cS,h];exact Qo (by decide)
theorem fY.isSome_eq {o:Option V} {u:Option Value} (r:fY o u):o.isSome=u.isSome:=by
 cases o with
 | none=>cases u with
  | none=>rfl
  | some _=>exact(show False from r).elim
 | some _=>cases u with
  | none=>exact(show False from r).elim
  | some _=>rfl
theorem fY.getD {o:Option V} {u:Option Value} {d:V} {d':Value} (r:fY o u) (rd:aL d d'):aL (o.getD d) (u.getD d'):=by
 cases o with
 | none=>cases u with
  | none=>exact rd
  | some _=>exact(show False from r).elim
 | some _=>cases u with
  | none=>exact(show False from r).elim
  | some _=>exact r
variable {vs:List (κ × Value)}
theorem KV.val (r:KV kvs vs) (k:κ):fY (aU kvs k) (valueAt vs k):=by
 unfold KV at r
 induction r with
 | nil=>exact True.intro
 | @cons p q ps qs h t ih =>
 obtain⟨h1,h2⟩:=h;by_cases e:p.1=k
 ·have e':q.1=k:=h1.symm.trans e;have b:valueAt (q::qs) k=some q.2:=by simp[valueAt,List.find?_cons,e']
  rw[bz e,b];exact h2
 have e':¬q.1=k:=λz=>e (h1.trans z);have b:valueAt (q::qs) k=valueAt qs k:=by simp[valueAt,List.find?_cons,e']
 rw[bD e,b];exact ih
theorem KV.any (r:KV kvs vs) (k:κ):(kvs.any λkv=>decide (kv.1=k))=vs.any λkv=>decide (kv.1=k):=by
 unfold KV at r
 induction r with
 | nil=>rfl
 | cons h t ih=>rw[List.any_cons,List.any_cons,ih,h.1]
theorem KV.repl (r:KV kvs vs) (k:κ) {y:V} {u:Value} (ry:aL y u) :
  KV (kvs.map λkv=>if kv.1=k then (kv.1,y) else kv) (vs.map λkv=>if kv.1=k then (kv.1,u) else kv):=by
 unfold KV at r ⊢
 induction r with
 | nil=>exact .nil
 | @cons p q ps qs h t ih =>
 rw[Qw,Qw];refine .cons ?_ ih;obtain⟨h1,h2⟩:=h;by_cases e:p.1=k
 ·rw[Qs e,Qs (h1.symm.trans e)];exact⟨h1,ry⟩
 rw[Qo e,Qo (λz=>e (h1.trans z))];exact⟨h1,h2⟩
theorem KV.put (r:KV kvs vs) (k:κ) {y:V} {u:Value} (ry:aL y u):KV (bv kvs k y) (stored vs k u):=by
 unfold bv stored;rw[r.any k];by_cases e:(vs.any λkv=>decide (kv.1=k))=true
 ·rw[Qs e,Qs e];exact r.repl k ry
 rw[Qo e,Qo e];exact Paired.snoc r ⟨rfl,ry⟩
theorem KV.length (r:KV kvs vs):kvs.length=vs.length:=Xr r
end
variable {u:Value}
theorem gr {P:Program} {w:World} {k:Key} (r:aL (kV k) u):(ax P w).is k u=true:=by
 cases k with
 | inl i=>obtain⟨t,e⟩:=(show ∃t,u=Value.int i t from r);subst e;exact m8 P w i t
 | inr x=>obtain⟨t,e⟩:=(show ∃t,u=Value.str x t from r);subst e;exact gY P w x t
theorem vC {a b:Key} (e:kV a=kV b):a=b:=by
 cases a with
 | inl i=>cases b with
  | inl j=>have e':V.int i=V.int j:=e;injection e' with e';rw[e']
  | inr y=>exact nomatch (show V.int i=V.str y from e)
 | inr x=>cases b with
  | inl j=>exact nomatch (show V.str x=V.int j from e)
  | inr y=>have e':V.str x=V.str y:=e;injection e' with e';rw[e']
theorem lu:∀{a b:List Key},a.map kV=b.map kV->a=b
 | [],[],_=>rfl
 | [],_::_,e=>by simp at e
 | _::_,[],e=>by simp at e
 | x::xs,y::ys,e=>by
  rw[Qw,Qw]at e;injection e with e1 e2;rw[vC e1,lu e2]
theorem j8 {P:Program} {w:World}:∀{ks:List Key} {us:List Value},aQ (ks.map kV) us->ItemsAre (ax P w) ks us
 | [],_,r=>by rw[List.map_nil]at r;cases r;exact .nil
 | k::ks,_,r=>by
  rw[Qw]at r
  cases r with
  | cons h t=>exact .cons (gr h) (j8 t)
abbrev KT (H:Hp):List (aB × V)->List (aB × Addr × Value)->Prop:=Paired λp q=>p.1=q.1/\bS H p.1 q.2.1/\aL p.2 q.2.2
variable {xs:List (aB × Addr × Value)} {kvs:List (aB × V)} {H H':Hp}
theorem KT.val (r:KT H kvs xs) (k:aB):fY (aU kvs k) ((atKey xs k).map (·.2)):=by
 induction r with
 | nil=>exact True.intro
 | @cons p q ps qs h t ih =>
 obtain⟨h1,_,h2⟩:=h;by_cases e:p.1=k
 ·have e':q.1=k:=h1.symm.trans e;have b:atKey (q::qs) k=some q.2:=by simp[atKey,List.find?_cons,e']
  rw[bz e,b];exact h2
 have e':¬q.1=k:=λz=>e (h1.trans z);have b:atKey (q::qs) k=atKey qs k:=by simp[atKey,List.find?_cons,e']
 rw[bD e,b];exact ih
theorem KT.repl (r:KT H kvs xs) (k:aB) {y:V} (ry:aL y u) :
  KT H (kvs.map λkv=>if kv.1=k then (kv.1,y) else kv) (xs.map (putAt k u)):=by
 induction r with
 | nil=>exact .nil
 | @cons p q ps qs h t ih =>
 rw[Qw,Qw];refine .cons ?_ ih;obtain⟨h1,h2,h3⟩:=h;unfold putAt;by_cases e:p.1=k
 ·rw[Qs e,Qs (h1.symm.trans e)];exact⟨h1,h2,ry⟩
 rw[Qo e,Qo (λz=>e (h1.trans z))];exact⟨h1,h2,h3⟩
variable {b a:Addr}
theorem KT.put (r:KT H kvs xs) (k:aB) {y:V} (hb:bS H k b) (ry:aL y u) :
  KT H (bv kvs k y) (storedH xs k b u):=by
 have e:(kvs.any λkv=>decide (kv.1=k))=(atKey xs k).isSome:=by
  rw[cS,(r.val k).isSome_eq,Option.isSome_map]
 unfold bv storedH;rw[e];by_cases q:(atKey xs k).isSome=true
 ·rw[Qs q,Qs q];exact r.repl k ry
 rw[Qo q,Qo q];exact Paired.snoc r ⟨rfl,hb,ry⟩
theorem KT.keeps (r:KT H kvs xs) (ht:∀b ys,H b=some (.tup ys)->H' b=some (.tup ys)):KT H' kvs xs :=
 Paired.mapP r λ_ _ z=>⟨z.1,z.2.1.keeps ht,z.2.2⟩
section
variable {P:Program} {w:World} {H:Hp} {h:Heap} {a:Addr}
theorem uq {u:HO} (ok:HOk P w H h) (e:Rd H a u):be P w H h a u:=e.ok ok
variable {kvs:List (Key × V)}
theorem jd (ok:HOk P w H h) (e:Rd H a (.dK kvs)):kvs.length<=sizeLine/\(a==sysModules)=false/\∃vs,KV kvs vs/\h.DictOf (ax P w) a vs :=
 show be P w H h a (.dK kvs) from uq ok e
theorem vW (ok:HOk P w H h) (e:H a=some (.dK kvs)):kvs.length<=sizeLine/\(a==sysModules)=false/\∃vs,KV kvs vs/\h.DictOf (ax P w) a vs:=jd ok (.inl e)
theorem nC (ok:HOk P w H h):∀{ks:aB} {vs:List V} {its:List Value},Paired (KIt H) ks vs->aQ vs its->TK.Its (ax P w) h ks its
 | _,_,_,.nil,.nil=>.nil
 | k::_,_,_,.cons q t,.cons rv r=>.cons (by
   cases k with
   | inl k=>cases q;exact gr rv
   | inr ks =>
   obtain⟨c,rfl,q⟩:=q;obtain⟨_,its,r,o,h1,h2,n,h3⟩:=(show be P w H h c (.tup (ks.map kV)) from ok c _ q)
   exact⟨c,rv,o,its.toArray,n,h1,h2,h3,by simpa using j8 r⟩) (nC ok t r)
theorem dC {ks:aB} (ok:HOk P w H h) (e:bS H ks a):(bq P w).is h ks a:=by
 obtain⟨vs,e,pr⟩:=e;obtain⟨_,its,r,o,h1,h2,n,h3⟩:=(show be P w H h a (.tup vs) from ok a _ e);exact⟨o,its.toArray,n,h1,h2,h3,by simpa using nC ok pr r⟩
theorem jc {kvs:List (aB × V)} (ok:HOk P w H h) (e:Rd H a (.dT kvs)):kvs.length<=sizeLine/\(a==sysModules)=false /\
  ∃xs,KT H kvs xs/\h.DictOfH (bq P w) a xs:=by
 obtain⟨z,y,xs,r,o,es,ep,h1,h2,h3,h4,h5⟩:=(show be P w H h a (.dT kvs) from uq ok e);refine⟨z,y,xs,r,o,es,ep,h1,h2,h3,h4,λx hx=>?_,h5⟩
 have all:∀{l:List (aB × V)} {m:List (aB × Addr × Value)},KT H l m->∀x∈m,(bq P w).is h x.1 x.2.1:=by
  intro l m q
  induction q with
  | nil=>intro x hx;exact nomatch hx
  | @cons p q ps qs hq t ih =>
  intro x hx;rcases Qj.mp hx with e|hx
  ·subst e;exact dC ok (by rw[<-hq.1];exact hq.2.1)
  exact ih x hx
 exact all r x hx
theorem yu {kvs:List (aB × V)} (ok:HOk P w H h) (e:H a=some (.dT kvs)):kvs.length<=sizeLine/\(a==sysModules)=false /\
  ∃xs,KT H kvs xs/\h.DictOfH (bq P w) a xs:=jc ok (.inl e)
end
def cF (H:Hp) (a:Addr) (y:V) (r:Option V):Prop :=
 (∃kvs k,Rd H a (.dK kvs)/\y=kV k/\r=aU kvs k)\/∃kvs k b,Rd H a (.dT kvs)/\y=.ref b/\bS H k b/\r=aU kvs k
def gD (H:Hp) (a:Addr) (y v:V) (H':Hp):Prop :=
 (∃kvs k,H a=some (.dK kvs)/\y=kV k/\kvs.length<sizeLine/\H'=upd H a (.dK (bv kvs k v))) \/
 ∃kvs k b,H a=some (.dT kvs)/\y=.ref b/\bS H k b/\kvs.length<sizeLine/\H'=upd H a (.dT (bv kvs k v))
theorem cF.k {H:Hp} {a:Addr} {kvs:List (Key × V)} {k:Key} (e:H a=some (.dK kvs)):cF H a (kV k) (aU kvs k):=.inl ⟨kvs,k,.inl e,rfl,rfl⟩
theorem cF.t {k:aB} (e:H a=some (.dT kvs)) (eb:bS H k b):cF H a (.ref b) (aU kvs k):=.inr ⟨kvs,k,b,.inl e,rfl,eb,rfl⟩
theorem gD.k {H:Hp} {a:Addr} {kvs:List (Key × V)} {k:Key} {v:V} (e:H a=some (.dK kvs)) (hl:kvs.length<sizeLine):gD H a (kV k) v (upd H a (.dK (bv kvs k v))):=.inl ⟨kvs,k,e,rfl,hl,rfl⟩
theorem gD.t {k:aB} {v:V} (e:H a=some (.dT kvs)) (eb:bS H k b) (hl:kvs.length<sizeLine) :
  gD H a (.ref b) v (upd H a (.dT (bv kvs k v))):=.inr ⟨kvs,k,b,e,rfl,eb,hl,rfl⟩
section
variable {X:Cx} {pins:B1} {U:St} {H:Hp} {s:Shared} {a:Addr} {y v:V} {u r:Value} {o:Option V} {A:Around} {E:B0}
theorem Inv.big (I:Inv X pins U H s):sysModules<s.heap.objs.size:=by
 have h:mainGlobals<s.heap.objs.size:=(I.mod.glob.keeps I.bk).lt;exact Nat.lt_trans (by decide) h
variable {Q:B0}
theorem sZ (hu:A.units+8<cLine) (I:Inv X pins U H s) (g:cF H a y (some v)) (ry:aL y u) (h:∀w' s',Inv X pins U H s'->aL v w'->Q w' s') :
  wpAny (model X.prog X.w) A (getItem (.ref a) u) Q E s:=by
 rcases g with⟨kvs,k,e,ey,l⟩|⟨kvs,k,b,e,ey,eb,l⟩
 ·subst ey;obtain⟨z,hd,vs,rel,dd⟩:=jd I.hok e;obtain⟨w',hw,rw'⟩:=fY.some_of (v:=v) (o:=valueAt vs k) (by rw[l];exact rel.val k);exact wpAny_getItem_of (gr ry) dd.mapOf hw (h w' _ (I.tok _) rw')
 subst ey;cases (show u=Value.ref b from ry);obtain⟨z,hd,xs,rel,dd⟩:=jc I.hok e;obtain⟨w',hw,rw'⟩:=fY.some_of (v:=v) (o:=(atKey xs k).map (·.2)) (by rw[l];exact rel.val k);obtain⟨p,hp,hp2⟩:=Q8.mp hw;refine wpAny_getItem_heap (fZ hu) (dC I.hok eb) dd hp ?_;rw[hp2];exact h w' _ (I.tok _) rw'
theorem xy (hu:A.units+8<cLine) (I:Inv X pins U H s) (g:cF H a y o) (ry:aL y u) (h:∀s',Inv X pins U H s'->Q (.bool (!o.isSome)) s') :
  wpAny (model X.prog X.w) A (compareOp .NotIn u (.ref a)) Q E s:=by
 rcases g with⟨kvs,k,e,ey,l⟩|⟨kvs,k,b,e,ey,eb,l⟩
 ·subst ey;obtain⟨z,hd,vs,rel,dd⟩:=jd I.hok e;refine wpAny_notIn_of (gr ry) hd dd.mapOf ?_;rw[<-(rel.val k).isSome_eq,<-l];exact h _ (I.tok _)
 subst ey;cases (show u=Value.ref b from ry);obtain⟨z,hd,xs,rel,dd⟩:=jc I.hok e;refine wpAny_notIn_heap (fZ hu) (dC I.hok eb) hd dd ?_;have q:=(rel.val k).isSome_eq;rw[Option.isSome_map]at q;rw[<-q,<-l];exact h _ (I.tok _)
theorem gA {h':Heap} {t':Nat} {ob:HO} (I:Inv X pins U H s) (mu:Mut (H a)) (hs:Heap.SameBut a s.heap h') (he:∃q,h'.get? a=some q) (new:be X.prog X.w (upd H a ob) h' a ob) :
  Inv X pins U (upd H a ob) { s with heap:=h',toks:=t' } :=
 I.write (x:=a) (e:=a) mu (.inl rfl) (λb q hb z=>(hs.2 b hb).trans z) he new
theorem pW {P:Program} {w:World} {H':Hp} {h':Heap} {kvs:List (Key × V)} {vs:List (Key × Value)} (z:kvs.length<=sizeLine) (hd:(a==sysModules)=false) (rel:KV kvs vs) (dd:h'.DictOf (ax P w) a vs) :
  be P w H' h' a (.dK kvs):=⟨z,hd,vs,rel,dd⟩
theorem sY {H':Hp} {Q:Unit->Shared->Prop} (hu:A.units+8<cLine) (I:Inv X pins U H s) (g:gD H a y v H') (ry:aL y u) (rv:aL v r) (h:∀s',Inv X pins U H' s'->Q () s') :
  wpAny (model X.prog X.w) A (setItem (.ref a) u r) Q E s:=by
 rcases g with⟨kvs,k,e,ey,l,eH⟩|⟨kvs,k,b,e,ey,eb,l,eH⟩
 ·subst ey eH;obtain⟨z,hd,vs,rel,dd⟩:=vW I.hok e;have hz:vs.length<=sizeLine:=by rw[<-rel.length];exact z
  have hl:(bv kvs k v).length<=sizeLine:=by have:=bX kvs k v;omega
  refine wpAny_setItem_pairs (hsz:=hz) (gr ry) dd λh' dd' hs=>h _ ?_;have he:∃q,h'.get? a=some q:=let ⟨q,_,_,hq,_⟩:=dd';⟨q,hq⟩;exact gA I (by rw[e];exact True.intro) hs he (pW hl hd (rel.put k rv) dd')
 subst ey eH;cases (show u=Value.ref b from ry);obtain⟨z,hd,xs,rel,dd⟩:=yu I.hok e;have hz:xs.length<=sizeLine:=by rw[<-Xr rel];exact z
 have hl:(bv kvs k v).length<=sizeLine:=by have:=bX kvs k v;omega
 refine wpAny_setItem_heap (hsz:=hz) (fZ hu) (dC I.hok eb) dd λh' dd' hs=>h _ ?_;obtain⟨q,es,ep,hq,h2,h3,h4,_,h5⟩:=dd';refine gA I (by rw[e];exact True.intro) hs ⟨q,hq⟩ ⟨hl,hd,_,(rel.put k eb rv).keeps λc ys ec=>?_,q,es,ep,hq,h2,h3,h4,h5⟩;rw[ah (yi ec e (λz=>nomatch z))];exact ec
end
section
variable {X:Cx} {pins:B1} {U:St} {H:Hp} {s:Shared} {a:Addr} {kvs:List (Key × V)} {k:Key} {u:Value} {A:Around} {E:B0}
end
def A5 (i:Expr):Prop:=∀ov iv,subscripted i false ov iv=operate [ov,iv] (getItem ov iv)
variable {Q E:B0} {pos:Pos} {s:Shared}
theorem wj {prog:Program} {w:World} {A:Around} {env:Env} {value slice:Expr} {T id:String}
  (hl:typeLookup (.type T) "__getitem__" = pure (some (.builtin id))) (hs:A5 slice)
  (h:wpAny (model prog w) A (eval value env) (λo s₁=>wpAny (model prog w) A (eval slice env) (λi s₂=>s₂.TypeIs o T/\wpAny (model prog w) A (getItem o i) Q E s₂) E s₁) E s) :
  wpAny (model prog w) A (eval (.Subscript value slice pos) env) Q E s:=by
 refine Subscript_ (XT h (λo s₁ h₁=>XT h₁ (λi s₂ h₂=>?_) λ_ _ x=>x) λ_ _ x=>x);obtain⟨hT,h₂⟩:=h₂;unfold subscriptTail;refine Qa ?_;rw[getitemInPython_of_ne hT.not_modules];refine Qa (wpAny_specialOf hT hl ?_)
 have fin:wpAny (model prog w) A (subscripted slice false o i) (λr s₃=>wpAny (model prog w) A (letTemporaryGo value o r >>= λ_=>pure r) Q E s₃) E s₂:=by
  rw[hs o i];exact wpAny_operating (XT h₂ (λr s₃ h₃=>Qa (wpAny_letTemporaryGo (Qf h₃))) λ_ _ x=>x)
 first
  | exact Qf (Qa fin)
  | exact Qa (Qf (Qa fin))
  | exact Qa fin
variable {pins:B1} {X:Cx}
theorem nY {U:St} {y:V} {o:Option V} (I:Inv X pins U H s) (g:cF H a y o):s.TypeIs (.ref a) "dict" := by
 rcases g with⟨kvs,k,e,_,_⟩|⟨kvs,k,b,e,_,_,_⟩
 ·obtain⟨_,_,vs,_,dd⟩:=jd I.hok e;exact dd.typeIs
 obtain⟨_,_,xs,_,dd⟩:=jc I.hok e;exact dd.typeIs
def xU (td ty:TE):TE:=λU H Q=>td U H λx H1=>ty U H1 λy H2=>∃a v,x=.ref a/\cF H2 a y (some v)/\Q v H2
def qt (ty td:TE):TE:=λU H Q=>ty U H λy H1=>td U H1 λx H2=>∃a o,x=.ref a/\cF H2 a y o/\Q (.bl (!o.isSome)) H2
def yb (td ty tv:TE):TS:=λD U H=>tv U H λv H1=>td U H1 λx H2=>ty U H2 λy H3=>∃a H4,x=.ref a/\gD H3 a y v H4/\D.nx U H4
section
variable {X:Cx} {o i e value:Expr} {pos pos' tpos:Pos} {td ty tv:TE}
theorem dL (hu:X.A.units+8<cLine) (ho:PE X o td) (hi:PE X i ty) (hs:A5 i:=by exact λ_ _=>rfl):PE X (.Subscript o i pos) (xU td ty):=by
 intro pins s U H Q I h;refine wj PySem.F.slot_dict_getitem.lookup hs (thn (ho pins s U H _ I h) λu s1 ⟨x,H1,I1,rx,q1⟩=>thn (hi pins s1 U H1 _ I1 q1) λiv s2 ⟨y,H2,I2,ry,a,v,ex,g,q2⟩=>?_);subst ex;obtain rfl:u=Value.ref a:=rx;exact⟨nY I2 g,sZ hu I2 g ry λw' s3 I3 rw'=>⟨v,H2,I3,rw',q2⟩⟩
theorem jS (hu:X.A.units+8<cLine) (hi:PE X i ty) (ho:PE X o td):PC X .NotIn i o (qt ty td):=by
 intro pins s U H Q I h;refine thn (hi pins s U H _ I h) λiv s1 ⟨y,H1,I1,ry,q1⟩=>thn (ho pins s1 U H1 _ I1 q1) λu s2 ⟨x,H2,I2,rx,a,ov,ex,g,q2⟩=>?_;subst ex;obtain rfl:u=Value.ref a:=rx;exact xy hu I2 g ry λs3 I3=>⟨.bl (!ov.isSome),H2,I3,rfl,q2⟩
theorem eB (hu:X.A.units+8<cLine) (ho:PE X o td) (hi:PE X i ty) (hv:PE X value tv) (hs:swapsWith value (some (.Subscript o i pos')) pos.line X.env=pure false) :
  PS X (.Assign [.Subscript o i pos'] value pos) (yb td ty tv):=by
 intro pins s U H D I h;refine wpAny_Assign_Subscript (thn (hv pins s U H _ I h) λr s1 ⟨v,H1,I1,rv,q1⟩=>thn (ho pins s1 U H1 _ I1 q1) λu s2 ⟨x,H2,I2,rx,q2⟩=>thn (hi pins s2 U H2 _ I2 q2) λiv s3 ⟨y,H3,I3,ry,a,H4,ex,g,q3⟩=>?_) hs;subst ex;obtain rfl:u=Value.ref a:=rx;exact sY hu I3 g ry rv λs4 I4=>⟨U,H4,I4,q3⟩
end
theorem nX {P:Program} {w:World} (h:Heap) (hb:sysModules<h.objs.size):be P w H (h.push { cls:=.type "dict", data:=.dict #[] }) h.objs.size (.dK []) :=
 ⟨QR _,beq_eq_false_iff_ne.mpr (Ne.symm (QB hb)),[],.nil,Heap.DictOf.new h⟩
theorem nV {P:Program} {w:World} (h:Heap) (hb:sysModules<h.objs.size):be P w H (h.push { cls:=.type "dict", data:=.dict #[] }) h.objs.size (.dT []) :=
 ⟨QR _,beq_eq_false_iff_ne.mpr (Ne.symm (QB hb)),[],.nil,_,#[],0,Qt _ rfl,⟨rfl,rfl,rfl⟩,rfl,rfl,List.nodup_nil⟩
def yK:TE:=λ_ H Q=>∀p,H p=none->Q (.ref p) (upd H p (.dK []))
def yJ:TE:=λ_ H Q=>∀p,H p=none->Q (.ref p) (upd H p (.dT []))
section
variable {X:Cx} {pos:Pos}
theorem uJ:PE X (.Dict [] [] pos) yK:=λpins s U H Q I h =>
 wpAny_Dict_empty ⟨.ref s.heap.objs.size,_,I.laid (a:=s.heap.objs.size) (o:=.dK []) (t':=s.toks) (λ_ _ q=>Qc _ q) (Qg _) (nX s.heap I.big),rfl,h _ (I.hok.fresh (Qg _))⟩
theorem uI:PE X (.Dict [] [] pos) yJ:=λpins s U H Q I h =>
 wpAny_Dict_empty ⟨.ref s.heap.objs.size,_,I.laid (a:=s.heap.objs.size) (o:=.dT []) (t':=s.toks) (λ_ _ q=>Qc _ q) (Qg _) (nV s.heap I.big),rfl,h _ (I.hok.fresh (Qg _))⟩
end
def oK:List (TE × TE)->St->Hp->(List (V × V)->Hp->Prop)->Prop
 | [],_,H,Q=>Q [] H
 | (tk,tv)::r,U,H,Q=>tk U H λx H1=>tv U H1 λy H2=>oK r U H2 λps H3=>Q ((x,y)::ps) H3
abbrev VV:List (V × V)->List (Value × Value)->Prop:=Paired λp q=>aL p.1 q.1/\aL p.2 q.2
def PPs (X:Cx) (pos:Pos) (keys:List (Option Expr)) (values:List Expr) (trs:List (TE × TE)):Prop :=
 ∀(pins:B1) (s:Shared) (U:St) (H:Hp) (Q:List (V × V)->Hp->Prop),Inv X pins U H s->oK trs U H Q ->
  wpAny (model X.prog X.w) X.A (evalPairs (pairTrees keys values X.env pos)) (λvs s'=>∃ps H',Inv X pins U H' s'/\VV ps vs/\Q ps H') X.xe s
theorem qR:PPs X pos [] [] []:=λpins s U H Q I h=>pairTrees_nil_walk ⟨[],H,I,.nil,h⟩
variable {trs:List (TE × TE)}
theorem mL {k v:Expr} {ks:List (Option Expr)} {vs:List Expr} {tk tv:TE} (hk:PE X k tk) (hv:PE X v tv) (hr:PPs X pos ks vs trs) :
  PPs X pos (some k::ks) (v::vs) ((tk,tv)::trs):=λpins s U H Q I h =>
 pairTrees_cons_walk (thn (hk pins s U H _ I h) λu s1 ⟨x,H1,I1,rx,q1⟩=>thn (hv pins s1 U H1 _ I1 q1) λw2 s2 ⟨y,H2,I2,ry,q2⟩ =>
  thn (hr pins s2 U H2 _ I2 q2) λws s3 ⟨ps,H3,I3,rel,q3⟩=>⟨(x,y)::ps,H3,I3,.cons ⟨rx,ry⟩ rel,q3⟩)
def iV (kvs more:List (Key × V)):List (Key × V):=more.foldl (λacc kv=>bv acc kv.1 kv.2) kvs
theorem KV.merge:∀{more:List (Key × V)} {rs:List (Key × Value)} {kvs:List (Key × V)} {vs:List (Key × Value)},KV more rs->KV kvs vs->KV (iV kvs more) (merged vs rs):=by
 intro more rs kvs vs r;unfold KV at r
 induction r generalizing kvs vs with
 | nil=>intro q;exact q
 | @cons p q ps qs h t ih =>
 intro r0
 have e:KV (bv kvs p.1 p.2) (stored vs q.1 q.2):=by
  have:=r0.put p.1 h.2;rw[<-h.1];exact this
 exact ih e
theorem fK:∀(more kvs:List (Key × V)),(iV kvs more).length<=kvs.length+more.length
 | [],kvs=>by show kvs.length<=kvs.length+0;omega
 | p::r,kvs=>by
  have h1:=fK r (bv kvs p.1 p.2);have h2:=bX kvs p.1 p.2;show (iV (bv kvs p.1 p.2) r).length<=_;rw[XA];omega
theorem jj {P:Program} {w:World}:∀{kvs:List (Key × V)} {ws:List (Value × Value)},VV (kvs.map λkv=>(kV kv.1,kv.2)) ws->∃rs,Carries (ax P w) ws rs/\KV kvs rs
 | [],_,r=>by rw[List.map_nil]at r;cases r;exact⟨[],True.intro,.nil⟩
 | p::kvs,_,r=>by
  rw[Qw]at r
  cases r with
  | @cons a b as bs h t =>
  obtain⟨rs,c,q⟩:=jj (P:=P) (w:=w) t;obtain⟨b1,b2⟩:=b;exact⟨(p.1,b2)::rs,⟨gr h.1,rfl,c⟩,.cons ⟨rfl,h.2⟩ q⟩
def Ac (trs:List (TE × TE)):TE:=λU H Q=>∀p,H p=none->oK trs U (upd H p (.dK [])) λps H2=>H2 p=some (.dK [])/\∃kvs:List (Key × V),ps=kvs.map (λkv=>(kV kv.1,kv.2))/\kvs.length<=15/\Q (.ref p) (upd H2 p (.dK (iV [] kvs)))
theorem qT {keys:List (Option Expr)} {values:List Expr} (h:PPs X pos keys values trs) (hall:keys.all (·.isSome)=true) (hl:keys.length=values.length) (h0:keys≠[])
  (h15:keys.length<=15):PE X (.Dict keys values pos) (Ac trs):=by
 intro pins s U H Q I q;have hn:=I.hok.fresh (Qg s.heap.objs.size);have I1:=I.laid (a:=s.heap.objs.size) (o:=.dK []) (h':=s.heap.push { cls:=.type "dict", data:=.dict #[] }) (t':=s.toks) (λ_ _ q=>Qc _ q) (Qg _) (nX s.heap I.big);refine wpAny_Dict_walk (knd:=ax X.prog X.w) hall hl h0 h15 (thn (h pins _ U _ _ I1 (q _ hn)) λws s2 ⟨ps,H2,I2,rel,e,kvs,ep,lk,q2⟩=>?_);subst ep;obtain⟨rs,c,rk⟩:=jj (P:=X.prog) (w:=X.w) rel;obtain⟨z,hd,vs0,r0,dd⟩:=vW I2.hok e;cases r0;refine⟨rs,c,dd,λh' dd' hs=>⟨.ref s.heap.objs.size,_,?_,rfl,q2⟩⟩
 have hz:(iV [] kvs).length<=sizeLine:=by
  have h1:=fK kvs [];rw[List.length_nil]at h1;rw[XZ];omega
 have he:∃q,h'.get? s.heap.objs.size=some q:=let ⟨q,_,_,hq,_⟩:=dd';⟨q,hq⟩;exact gA I2 (by rw[e];exact True.intro) hs he (pW hz hd (rk.merge .nil) dd')
structure M1 (X:Cx) (o:Expr) (m:Str) (apos:Pos) (e:Expr) (cpos:Pos):Prop where
 base:attributeBase o m X.env (eval o X.env)=eval o X.env
 few:((backTo cpos (starEach [e] X.env)).all (λx=>!x.1)&&(backToKw cpos (keywordEach [] X.env)).all (λx=>x.1.isSome)
  && decide (([e]:List Expr).length+([]:List Keyword).length+(if ([]:List Keyword).isEmpty then 0 else 1)<30))=true
 line:(apos.endLine==cpos.line)=true
 trees:backTo cpos (starEach [e] X.env)=[(false,eval e X.env)]
structure M2 (X:Cx) (o:Expr) (m:Str) (apos:Pos) (e f:Expr) (cpos:Pos):Prop where
 base:attributeBase o m X.env (eval o X.env)=eval o X.env
 few:((backTo cpos (starEach [e,f] X.env)).all (λx=>!x.1)&&(backToKw cpos (keywordEach [] X.env)).all (λx=>x.1.isSome)
  && decide (([e,f]:List Expr).length+([]:List Keyword).length+(if ([]:List Keyword).isEmpty then 0 else 1)<30))=true
 line:(apos.endLine==cpos.line)=true
 trees:backTo cpos (starEach [e,f] X.env)=[(false,eval e X.env),(false,eval f X.env)]
def IsD (H:Hp) (a:Addr):Prop:=(∃kvs,Rd H a (.dK kvs))\/∃kvs,Rd H a (.dT kvs)
theorem pP {U:St} (I:Inv X pins U H s) (d:IsD H a) :
  s.TypeIs (.ref a) "dict" /\ (∀b,Value.ref a=.ref b->∃ob,s.heap.get? b=some ob/\ob.dict=none)/\(a==sysModules)=false:=by
 rcases d with⟨kvs,e⟩|⟨kvs,e⟩
 ·obtain⟨_,hd,vs,_,dd⟩:=jd I.hok e;refine⟨dd.typeIs,λb q=>?_,hd⟩;cases q;obtain⟨ob,_,_,h1,h2,_⟩:=dd;exact⟨ob,h1,h2.2.1⟩
 obtain⟨_,hd,xs,_,dd⟩:=jc I.hok e;refine⟨dd.typeIs,λb q=>?_,hd⟩;cases q;obtain⟨ob,_,_,h1,h2,_⟩:=dd;exact⟨ob,h1,h2.2.1⟩
section
variable {X:Cx} {pins:B1} {U:St} {H:Hp} {s:Shared} {a:Addr} {y d:V} {u r:Value} {o:Option V} {A:Around} {E:B0}
variable {Q:B0}
theorem zH (hu:A.units+8<cLine) (I:Inv X pins U H s) (g:cF H a y o) (ry:aL y u) (h:∀w' s',Inv X pins U H s'->aL (o.getD .non) w'->Q w' s') :
  wpAny (model X.prog X.w) A (call (.builtin "dict.get") [.ref a,u]) Q E s:=by
 rcases g with⟨kvs,k,e,ey,l⟩|⟨kvs,k,b,e,ey,eb,l⟩
 ·subst ey;obtain⟨z,hd,vs,rel,dd⟩:=jd I.hok e;refine call_meetsIn PySem.F.slot_dict_get dd.typeIs PySem.F.entry_dict_get (PySem.F.args_dict_get_2 _ _) (meets_dict_get (ax X.prog X.w) a (gr ry) hd) ⟨_,dd.mapOf,h _ _ (I.tok _) ?_⟩;rw[l];exact(rel.val k).getD rfl
 subst ey;cases (show u=Value.ref b from ry);obtain⟨z,hd,xs,rel,dd⟩:=jc I.hok e;refine call_meetsIn PySem.F.slot_dict_get dd.typeIs PySem.F.entry_dict_get (PySem.F.args_dict_get_2 _ _) (meetsH_dict_get (bq X.prog X.w) a b hd) ⟨fZ hu,k,xs,dC I.hok eb,dd,h _ _ (I.tok _) ?_⟩;rw[l];exact(rel.val k).getD rfl
theorem zF (hu:A.units+8<cLine) (I:Inv X pins U H s) (g:cF H a y o) (ry:aL y u) (rd:aL d r) (h:∀w' s',Inv X pins U H s'->aL (o.getD d) w'->Q w' s') :
  wpAny (model X.prog X.w) A (call (.builtin "dict.get") [.ref a,u,r]) Q E s:=by
 rcases g with⟨kvs,k,e,ey,l⟩|⟨kvs,k,b,e,ey,eb,l⟩
 ·subst ey;obtain⟨z,hd,vs,rel,dd⟩:=jd I.hok e;refine call_meetsIn PySem.F.slot_dict_get dd.typeIs PySem.F.entry_dict_get (PySem.F.args_dict_get_3 _ _ _) (meets_dict_get_default (ax X.prog X.w) a (gr ry) hd r) ⟨_,dd.mapOf,h _ _ (I.tok _) ?_⟩;rw[l];exact(rel.val k).getD rd
 subst ey;cases (show u=Value.ref b from ry);obtain⟨z,hd,xs,rel,dd⟩:=jc I.hok e;refine call_meetsIn PySem.F.slot_dict_get dd.typeIs PySem.F.entry_dict_get (PySem.F.args_dict_get_3 _ _ _) (meetsH_dict_get_default (bq X.prog X.w) a b hd r) ⟨fZ hu,k,xs,dC I.hok eb,dd,h _ _ (I.tok _) ?_⟩;rw[l];exact(rel.val k).getD rd
end
def tR (td ty:TE):TE:=λU H Q=>td U H λx H1=>∃a,x=.ref a/\IsD H1 a/\ty U H1 λy H2=>∃o,cF H2 a y o/\Q (o.getD .non) H2
def tQ (td ty tx:TE):TE:=λU H Q=>td U H λx H1=>∃a,x=.ref a/\IsD H1 a/\ty U H1 λy H2=>tx U H2 λz H3=>∃o,cF H3 a y o/\Q (o.getD z) H3
section
variable {X:Cx} {o e f:Expr} {apos cpos:Pos} {td ty tx:TE}
theorem uL (hu:X.A.units+8<cLine) (ho:PE X o td) (he:PE X e ty) (m:M1 X o "get" apos e cpos):PE X (.Call (.Attribute o "get" apos) [e] [] cpos) (tR td ty):=by
 intro pins s U H Q I h;refine wpAny_Call_method m.base m.few m.line PySem.F.plainAttrs_dict PySem.F.slot_dict_get PySem.F.type_dict_get (thn (ho pins s U H _ I h) λu s1 ⟨x,H1,I1,rx,a,ex,d,q1⟩=>?_);subst ex;obtain rfl:u=Value.ref a:=rx;obtain⟨t1,t2,_⟩:=pP I1 d;refine⟨t1,t2,?_⟩;rw[m.trees];refine Calls.callWith_builtin rfl (Calls.evalArgs_plain (XI (thn (he pins s1 U H1 _ I1 q1) λiv s2 ⟨y,H2,I2,ry,ov,g,q2⟩=>Calls.spliced_nil ?_)));exact zH hu I2 g ry λw' s3 I3 rw'=>⟨_,H2,I3,rw',q2⟩
theorem mR (hu:X.A.units+8<cLine) (ho:PE X o td) (he:PE X e ty) (hf:PE X f tx) (m:M2 X o "get" apos e f cpos):PE X (.Call (.Attribute o "get" apos) [e,f] [] cpos) (tQ td ty tx):=by
 intro pins s U H Q I h;refine wpAny_Call_method m.base m.few m.line PySem.F.plainAttrs_dict PySem.F.slot_dict_get PySem.F.type_dict_get (thn (ho pins s U H _ I h) λu s1 ⟨x,H1,I1,rx,a,ex,d,q1⟩=>?_);subst ex;obtain rfl:u=Value.ref a:=rx;obtain⟨t1,t2,_⟩:=pP I1 d;refine⟨t1,t2,?_⟩;rw[m.trees]
 refine Calls.callWith_builtin rfl (Calls.evalArgs_plain (XI (thn (he pins s1 U H1 _ I1 q1) λiv s2 ⟨y,H2,I2,ry,q2⟩ =>
  XI (thn (hf pins s2 U H2 _ I2 q2) λfv s3 ⟨z,H3,I3,rz,ov,g,q3⟩=>Calls.spliced_nil ?_))))
 exact zF hu I3 g ry rz λw' s4 I4 rw'=>⟨_,H3,I4,rw',q3⟩
end
section
variable {X:Cx} {pins:B1} {U:St} {H:Hp} {s:Shared} {a:Addr} {kvs:List (Key × V)} {A:Around} {E:B0}
end
section
variable {X:Cx} {pins:B1} {U:St} {H:Hp} {s:Shared} {a:Addr} {y:V} {u:Value} {A:Around} {E:B0}
end
end L2
namespace Att
open PySem PySem.W PySem.Calls PyProof.Rows
theorem ib {P:Params} {h:Heap}:∀(ns:List Int) (vs:List Value),WellAll P h vs (ns.map WData.int)->IntsAre vs ns:=by
 intro ns
 induction ns with
 | nil =>
  intro vs w;rw[List.map_nil]at w;cases w;exact .nil
 | cons n ns ih =>
 intro vs w;rw[Qw]at w
 cases w with
 | cons a b =>
 cases a;exact .cons _ _ (ih _ b)
theorem rZ {l:OpenLaw} {n:Nat} (hn:l.most=some n) {P:Params} {h:Heap} {args:List WData} {vals:List Value}
  (hpre:l.row.toRowW.claim.pre args=true) (hwl:WellAll P h vals args) :
  ∃a vs ns,vals=[Value.ref a]/\args=[WData.list (ns.map WData.int)]/\h.get? a=some { cls:=.type "list", data:=.seq vs.toArray }/\IntsAre vs ns/\ns.length<=n:=by
 have hsh:WShape.hasAll [] args [.list .int]=true:=(pre_splitW hpre).1;have hc:l.pre.holds [] { args:=args }=true:=(pre_splitW hpre).2;obtain⟨d,r,rfl,h1,h2⟩:=hasAllW_cons hsh;obtain rfl:=hasAllW_nil h2;obtain⟨xs,rfl,h3⟩:=hasW_list h1;obtain⟨ns,rfl⟩:=items_int h3
 have hlen:ns.length<=n:=by
  unfold OpenLaw.pre at hc
  have h4:(WTm.not (.lt (.lit (.int (n:Int))) (.len (.arg 0)))).holds [] { args:=[.list (ns.map .int)] }=true:=by
   have h4:=(holds_andW hc).1;rw[hn]at h4;exact h4
  have h5:=condW_of h4 (w_not (w_lt w_lit (w_len_list (w_arg rfl))));rw[Qb]at h5;refine Nat.le_of_not_lt λq=>?_;have q':(n:Int)<((ns.length:Nat):Int):=by omega
  first
   | (rw[Qv q']at h5;exact absurd h5 (by decide))
   | (simp at h5;omega)
 cases hwl with
 | cons w1 w2 =>
 cases w2
 cases w1 with
 | list ho hall=>exact⟨_,_,ns,rfl,rfl,ho,ib ns _ hall,hlen⟩
theorem se (l:OpenLaw) (args:List WData):l.row.toRowW.claim.post args (.bool true) args=true :=
 postW_of (r:=l.row.toRowW) (X:=(true==true))
  (show WShape.has [] (.bool true) .bool=true by first|rfl|decide|simp[WShape.has,WShape.arms,WShape.armsAll])
  (show (WTm.eq .res (.lit (.bool true))).value [] { args:=args,res:=some (.bool true),after:=args }=some (.bool (true==true)) from w_eq_bool (w_res rfl) w_lit) rfl
theorem oo {l:OpenLaw} {n:Nat} {q:Program} {loose:List Str} {XP:B2->Heap->Prop} {YP:World->Heap->Prop} {d:DefRec}
  (hn:l.most=some n) (hdf:d.params.defaults=[])
  (call:∀(w:World) (s₀ s₁:Shared) (mg mb:B2) (fa:Addr) (o:Obj) (pm cd doc:Value) (a:Addr) (vs:List Value) (ns:List Int),
   Ground q loose [] XP w s₀ mg mb s₁.heap->YP w s₁.heap ->
   s₁.heap.get? fa=some o->o.data=.func (docDef d.name d.params d.body d.scope pm cd doc)->s₁.heap.CodeRec cd d.name->mg d.name=some (.ref fa) ->
   s₁.heap.get? a=some { cls:=.type "list", data:=.seq vs.toArray }->IntsAre vs ns->ns.length<=n->s₁.gens=#[] ->
   codeAny (model l.prog w) callerA (.call (.ref fa) ⟨[.ref a],[]⟩) (λr s'=>r=.ok (.ret (.bool true))/\OldK s₁.heap s'.heap/\s'.os=s₁.os/\AllBare s'.gens) s₁) :
  WalkO q loose XP YP l.row.toRowW d [] (λf vs=>PySem.call f vs):=by
 intro w s₀ s₁ mg mb G Y fa o pm cd doc dV kV ho hd hcd hD hmg hg args vals as hpre hlay hrd hwl hlo;obtain rfl:dV=.none:=Dflts.none hD hdf;obtain rfl:kV=.none:=Dflts.noKw hD;obtain⟨a,vs,ns,rfl,rfl,hobj,hints,hlen⟩:=rZ hn hpre hwl;refine enter_call (codeAny_mono (call w s₀ s₁ mg mb fa o pm cd doc a vs ns G Y ho (fd_plain hd) hcd hmg hobj hints hlen hg) λr s' hq=>?_);obtain⟨rfl,h2,h3,h4⟩:=hq;exact⟨.inl ⟨.bool true,.bool true,[],rfl,λ_=>rfl,.bool true,se l _,λ_=>⟨List.Pairwise.nil,λ_ hm=>(nomatch hm)⟩⟩,h2,h3,h4⟩
section
variable {prog:Program} {w:World} {A:Around} {E:B0} {s:Shared} {K:Frag}
end
end Att
namespace L2
open PySem PySem.Spec PyProof.Rows
theorem jD:∀{vs:List Value} {ns:List Int},IntsAre vs ns->aQ (ns.map V.int) vs
 | _,_,.nil=>.nil
 | _,_,.cons n t h=>.cons ⟨t,rfl⟩ (jD h)
end L2
/- THE LAST THEOREM (shape;LID,My.* are yours):
  My.Adr: a structure of the addresses that your layer names (classes,functions);My.Txt K t: a structure (Prop) of the equations over K;
  My.txt_mk:{K} {implicit addresses ..} (e1:nsIn K mainGlobals "law" = some (some (.ref f))) (e2:K.lookup f=some ⟨oc,od,.func (fnOf "law" "law" params body scope dV kV doc pm an cdv ct),sl⟩) (e3:codeIn K cdv "law" = true) ..:∃t,My.Txt K t
(the tactic k_is has no namespace: write k_is) -/
namespace L2
open PySem PySem.Spec PyProof.Rows
abbrev CX0:CXT:=λ_ _ _ _ _ _=>False
abbrev E0:XK:=λ_ _ _=>False
variable {X:Cx}
theorem yf:jq CX0 X E0:=λ_ _ _ _ _ _ _ h=>h.elim
structure Fun (K:PySem.W.Frag) (x qual:Str) (st:Stmt) (f:Addr) (fd:FuncData):Prop where
 ex:∃(oc:Value) (od:Option Addr) (kV doc pm:Value) (an:Option Addr) (cdv ct:Value) (osl:Array (Option Value)),
  fd=PySem.W.fnOf x qual (cQ st) (b9 st) (au st) .none kV doc pm an cdv ct/\K.lookup f=some ⟨oc,od,.func fd,osl⟩/\PySem.W.codeIn K cdv qual=true
 kp:PySem.W.keepIn K (.ref f)=true
section
variable {P:Program} {w:World} {K:PySem.W.Frag} {mg:B2} {base:Heap}
variable {x qual:Str}
theorem Fun.ok {st:Stmt} {f:Addr} {fd:FuncData} {N ps:List Str} {k:Nat} {sp:Sp} (F:Fun K x qual st f fd) (S:FnScope N ps (au st)) (len:∀vs H Q E,sp vs H Q E->vs.length=ps.length)
  (hbody:∀(cdv:Value) (A:Around) (outer:List Env) (s:Shared) (H:Hp) (vs:List V) (Q:VK) (E:XK),Room k (A.deeper (envOfC qual (au st) s.heap.objs.size f cdv))->sp vs H Q E ->
   ∃t,PSs (cxOf CX0 P w K mg base N qual (au st) f cdv A outer s H E).nox (b9 st) t/\t { nx:=λ_ H'=>Q .non H',rt:=Q } (start N vs) H):FnOk P w K mg base CX0 (k+1) f fd ps sp:=by
 obtain⟨oc,od,kV,doc,pm,an,cdv,ct,osl,rfl,lk,hcd⟩:=F.ex;refine yt lk hcd S len λA outer s H vs Q E hr hsp=>?_;obtain⟨t,h,q⟩:=hbody cdv A outer s H vs Q E hr hsp;exact⟨t,h.nox,q⟩
theorem Fun.binds {st:Stmt} {f:Addr} {fd:FuncData} {ps:List Str} (F:Fun K x qual st f fd)
  (h:∀(kV doc pm:Value) (an:Option Addr) (cdv ct:Value) (us:List Value),us.length=ps.length->bindArgs (PySem.W.fnOf x qual (cQ st) (b9 st) (au st) .none kV doc pm an cdv ct) ⟨us,[]⟩=pure (ps.zip us)):jr K fd ps []:=by
 obtain⟨oc,od,kV,doc,pm,an,cdv,ct,osl,rfl,lk,hcd⟩:=F.ex;exact .all (h kV doc pm an cdv ct)
theorem pR {st:Stmt} {f:Addr} {oc:Value} {od an:Option Addr} {osl:Array (Option Value)} {kV doc pm cdv ct:Value} (l:K.lookup f=some ⟨oc,od,.func (PySem.W.fnOf x qual (cQ st) (b9 st) (au st) .none kV doc pm an cdv ct),osl⟩)
  (c:PySem.W.codeIn K cdv qual=true) (k:PySem.W.keepIn K (.ref f)=true):Fun K x qual st f (PySem.W.fnOf x qual (cQ st) (b9 st) (au st) .none kV doc pm an cdv ct):=⟨⟨oc,od,kV,doc,pm,an,cdv,ct,osl,rfl,l,c⟩,k⟩
end
theorem cV {A:Around} {k:Nat} (hr:Room k A):A.units+8<cLine:=XY (Nat.add_le_add_left (by decide:8<=64) _) hr.units
section
variable {X:Cx}
theorem pv (i:Nat) {x:Str} {pos:Pos} (hN:X.N[i]?=some x:=by rfl) (hv:Vis X.env.scope x:=by first|exact Or.inl rfl|exact Or.inr (Or.inl rfl)|exact Or.inr (Or.inr rfl)) (hd:(x==("__debug__" : Str))=false:=by decide)
  (hcd:(x==("__classdict__" : Str))=false:=by decide):PE X (.Name x pos) (fO i):=yX hN hv hd hcd
end
theorem iteF {A B:Prop} (h:B):if false=true then A else B:=by
 rw[Qo Qr];exact h
theorem cu {A B:Prop} (h:A):if true=true then A else B:=by
 rw[Qs rfl];exact h
theorem lA {c A B:Prop} [Decidable c] (h1:c->A) (h2:¬c->B):if c then A else B:=by
 by_cases h:c
 ·rw[Qs h];exact h1 h
 rw[Qo h];exact h2 h
def aj (H H':Hp):Prop:=∀b o,H b=some o->H' b=some o
theorem aj.refl (H:Hp):aj H H:=λ_ _ h=>h
variable {H H1 H2 H' H4:Hp}
theorem aj.trans (a:aj H H1) (b:aj H1 H2):aj H H2:=λc o h=>b c o (a c o h)
variable {a c it e T:Addr}
theorem aj.seq {K:PySem.W.Frag} {xs:List V} (e:aj H H') (h:SqL K H a xs):SqL K H' a xs:=by
 rcases h with(h|⟨o,h⟩)|h
 ·exact .inl (.inl (e _ _ h))
 ·exact .inl (.inr ⟨o,e _ _ h⟩)
 exact .inr h
section
variable {κ:Type} [DecidableEq κ]
variable {kvs:List (κ × V)}
theorem eS {k:κ} (h:aU kvs k=none):¬k∈kvs.map (·.1):=by
 intro m;obtain⟨p,hp,e⟩:=Qm.mp m;have q:(kvs.any λkv=>decide (kv.1=k))=true:=List.any_eq_true.mpr ⟨p,hp,Qv e⟩;rw[cS,h]at q;exact absurd q (by simp)
theorem qj {k:κ} {v:V} (h:aU kvs k=some v):k∈kvs.map (·.1):=by
 have q:(kvs.any λkv=>decide (kv.1=k))=true:=by
  rw[cS,h]
  all_goals rfl
 obtain⟨p,hp,e⟩:=List.any_eq_true.mp q;exact Qm.mpr ⟨p,hp,Xu e⟩
theorem qY:∀{l:List κ} {k:κ},l.Nodup->¬k∈l->(l++[k]).Nodup
 | [],k,_,_=>by simp
 | a::r,k,h,hk=>by
  obtain⟨h1,h2⟩:=QU.mp h;show (a::(r++[k])).Nodup;refine QU.mpr ⟨λm=>?_,qY h2 λm=>hk (Qj.mpr (Or.inr m))⟩;rcases Qz.mp m with q|q
  ·exact h1 q
  exact hk (Qj.mpr (Or.inl (Qy.mp q).symm))
end
section
variable {X:Cx}
end
def wk:St->St->Prop
 | [],[]=>True
 | none::a,_::b=>wk a b
 | some x::a,y::b=>y=some x/\wk a b
 | _,_=>False
theorem kD:∀{a b:St},wk a b->a.length=b.length
 | [],[],_=>rfl
 | [],_::_,h=>h.elim
 | none::_,[],h=>h.elim
 | some _::_,[],h=>h.elim
 | none::a,_::b,h=>congrArg (·+1) (kD (a:=a) (b:=b) h)
 | some _::a,_::b,h=>congrArg (·+1) (kD (a:=a) (b:=b) h.2)
theorem kG:∀{a b:St},wk a b->∀(i:Nat) (v:V),a[i]?=some (some v)->b[i]?=some (some v)
 | [],[],_,i,v,e=>by simp at e
 | [],_::_,h,_,_,_=>h.elim
 | none::_,[],h,_,_,_=>h.elim
 | some _::_,[],h,_,_,_=>h.elim
 | none::a,y::b,h,0,v,e=>by simp at e
 | none::a,y::b,h,i+1,v,e=>by
  have:=kG (a:=a) (b:=b) h i v (by simpa using e);simpa using this
 | some x::a,y::b,h,0,v,e=>by
  have e':x=v:=by simpa using e
  subst e';rw[h.1];rfl
 | some x::a,y::b,h,i+1,v,e=>by
  have:=kG (a:=a) (b:=b) h.2 i v (by simpa using e);simpa using this
def cH (env:Env):List (Str × NameKind)->List (Str × Addr)->List (Str × Addr)
 | [],acc=>acc
 | (n,k)::r,acc=>cH env r (if (k==.free)=true then (n,(env.cells.lookup n).getD 0)::acc else acc)
theorem jh {env:Env}:∀(ns:List (Str × NameKind)) (acc:List (Str × Addr)),(∀y∈ns,y.2=.free->∃c,env.cells.lookup y.1=some c) ->
  (forIn ns acc (fun x r=>match x with
   | (name,kind)=>if (kind==NameKind.free)=true then (do let c <-cellOf env name;pure (ForInStep.yield ((name,c)::r))) else pure (ForInStep.yield r)):Sem (List (Str × Addr)))=pure (cH env ns acc)
 | [],acc,_=>rfl
 | (n,k)::r,acc,h=>by
  rw[List.forIn_cons];have ih:=λa=>jh (env:=env) r a λy hy=>h y (Qn _ hy);by_cases hk:(k==NameKind.free)=true
  ·obtain⟨c,hc⟩:=h (n,k) Xp (by simpa using hk);have e1:cellOf env n=pure c:=by unfold cellOf;rw[hc]
   simp only[hk,if_true,e1,pure_bind];unfold cH;simp only[hk,if_true,hc,Option.getD_some];exact ih _
  simp only[hk,XD,pure_bind];unfold cH;simp only[hk,XD];exact ih _
variable {env:Env} {scope:Scope}
theorem ji (h:∀y∈scope.names,y.2=.free->∃c,env.cells.lookup y.1=some c):closureFor scope env=pure (cH env scope.names []):=by
 have e:=jh scope.names [] h;unfold closureFor
 first
  | (rw[show (forIn scope.names ([]:List (Str × Addr)) _:Sem (List (Str × Addr)))=pure (cH env scope.names []) from e];rfl)
  | (simp only[bind_pure];exact e)
  | exact(congrArg (· >>= pure) e)
theorem gU {env:Env}:∀(ns:List (Str × NameKind)) (acc:List (Str × Addr)) (n:Str) (a:Addr),(n,a)∈cH env ns acc->(n,a)∈acc\/(a=(env.cells.lookup n).getD 0/\(n,NameKind.free)∈ns)
 | [],acc,n,a,h=>.inl h
 | (m,k)::r,acc,n,a,h=>by
  unfold cH at h;by_cases hk:(k==NameKind.free)=true
  ·rw[Qs hk]at h;rcases gU r _ n a h with q|⟨q1,q2⟩
   ·rcases Qj.mp q with q|q
    ·cases q;have hk':k=.free:=by simpa using hk
     subst hk';exact .inr ⟨rfl,Xp⟩
    exact .inl q
   exact .inr ⟨q1,Qn _ q2⟩
  rw[Qo hk]at h;rcases gU r _ n a h with q|⟨q1,q2⟩
  ·exact .inl q
  exact .inr ⟨q1,Qn _ q2⟩
theorem ki {env:Env}:∀(ns:List (Str × NameKind)) (acc:List (Str × Addr)) (p:Str × Addr),p∈acc->p∈cH env ns acc
 | [],_,_,h=>h
 | (m,k)::r,acc,p,h=>by
  unfold cH;refine ki r _ p ?_
  split
  ·exact Qn _ h
  exact h
theorem jg {env:Env}:∀(ns:List (Str × NameKind)) (acc:List (Str × Addr)) (n:Str),(n,NameKind.free)∈ns->(n,(env.cells.lookup n).getD 0)∈cH env ns acc
 | [],_,_,h=>nomatch h
 | (m,k)::r,acc,n,h=>by
  unfold cH;rcases Qj.mp h with q|q
  ·cases q;refine ki r _ _ ?_;rw[Qs (by rfl)];exact Xp
  exact jg r _ n q
theorem eE {α β:Type} [BEq α] [LawfulBEq α]:∀{l:List (α × β)} {x:α} {y:β},l.lookup x=some y->(x,y)∈l
 | [],_,_,h=>by simp at h
 | (a,b)::r,x,y,h=>by
  rw[Q5]at h;by_cases e:(x==a)=true
  ·rw[e]at h;have e':x=a:=by simpa using e
   have h':b=y:=by simpa using h
   subst e' h';exact Xp
  have e2:(x==a)=false:=by simpa using e
  rw[e2]at h;exact Qn _ (eE (by simpa using h))
theorem fI {α β:Type} [BEq α] [LawfulBEq α]:∀{l:List (α × β)} {x:α} {y:β},(x,y)∈l->∃z,l.lookup x=some z
 | [],_,_,h=>nomatch h
 | (a,b)::r,x,y,h=>by
  rw[Q5];by_cases e:(x==a)=true
  ·rw[e];exact⟨b,rfl⟩
  have e2:(x==a)=false:=by simpa using e
  rw[e2];rcases Qj.mp h with q|q
  ·cases q;simp at e
  exact fI q
variable {x z:Str} {ns:List (Str × NameKind)}
theorem v4 (h:(cH env ns []).lookup x=some c) (hall:∀y∈ns,y.2=.free->∃c,env.cells.lookup y.1=some c):env.cells.lookup x=some c:=by
 rcases gU ns [] x c (eE h) with q|⟨q1,q2⟩
 ·nomatch q
 obtain⟨c',hc⟩:=hall _ q2 rfl;have hc':env.cells.lookup x=some c':=hc;rw[hc']at q1;rw[hc',q1];rfl
theorem rH {env:Env} (h:(x,NameKind.free)∈ns):∃c,(cH env ns []).lookup x=some c:=fI (jg ns [] x h)
noncomputable def Cx.block (X:Cx) (N:List Str) (scope:Scope) (C:Addr) (s:Shared) (H:Hp) (fp:B3):Cx :=
 { X with N:=N,s₀:=s,H₀:=H,env:=compEnvC scope (cH X.env scope.names []) C X.env,outer:=X.stack,ex:=fp,fn:=λ_=>false,pn:=[],xe:=λ_ _=>False }
theorem kT {k:NameKind} (h:(relabel scope env).names.lookup x=some k):∃k',scope.names.lookup x=some k'/\(k=k'\/(k'=.free/\k=.cell)):=by
 unfold relabel at h;generalize scope.names=ns at h
 induction ns with
 | nil=>simp at h
 | cons p r ih =>
 obtain⟨n,k0⟩:=p;rw[Qw]at h;by_cases e:(x==n)=true
 ·refine⟨k0,by rw[Q5,e],?_⟩;by_cases c:(k0==NameKind.free&&env.scope.kind==.function&&env.kindOf n==some .cell)=true
  ·have h1:some NameKind.cell=some k:=by
    have h2:=h;simp only[c,if_true]at h2;rw[Q5,e]at h2;exact h2
   have h3:k0=.free:=by
    simp only[Xz,beq_iff_eq]at c;exact c.1.1
   exact .inr ⟨h3,(QF h1).symm⟩
  have h1:some k0=some k:=by
   have h2:=h;simp only[c,QG,XD]at h2;rw[Q5,e]at h2;exact h2
  exact .inl (QF h1).symm
 have e2:(x==n)=false:=by simpa using e
 rw[Q5,e2];refine ih ?_;by_cases c:(k0==NameKind.free&&env.scope.kind==.function&&env.kindOf n==some .cell)=true
 ·have h2:=h;simp only[c,if_true]at h2;rw[Q5,e2]at h2;exact h2
 have h2:=h;simp only[c,QG,XD]at h2;rw[Q5,e2]at h2;exact h2
theorem kU (h:scope.names.lookup x=some .free):(relabel scope env).names.lookup x=some .cell\/(relabel scope env).names.lookup x=some .free:=by
 unfold relabel;show List.lookup x (scope.names.map _)=_\/List.lookup x (scope.names.map _)=_;generalize scope.names=ns at h
 induction ns with
 | nil=>simp at h
 | cons p r ih =>
 obtain⟨n,k0⟩:=p;rw[Qw];by_cases e:(x==n)=true
 ·rw[Q5,e]at h;have h':k0=.free:=by simpa using h
  subst h';by_cases c:(NameKind.free==NameKind.free&&env.scope.kind==.function&&env.kindOf n==some .cell)=true
  ·left
   simp only[c,if_true];rw[Q5,e]
  right
  simp only[c,QG,XD];rw[Q5,e]
 have e2:(x==n)=false:=by simpa using e
 rw[Q5,e2]at h;have h3:=ih h;by_cases c:(k0==NameKind.free&&env.scope.kind==.function&&env.kindOf n==some .cell)=true
 ·simp only[c,if_true];rw[Q5,e2];exact h3
 simp only[c,QG,XD];rw[Q5,e2];exact h3
def xM (X:Cx) (ifs:List Expr) (t:TT):Prop :=
 ∀(pins:B1) (s:Shared) (U:St) (H:Hp) (Q:Bool->Hp->Prop),Inv X pins U H s->t U H Q ->
  wpAny (model X.prog X.w) X.A (forIn ifs true λc r=>if r=true then do let ok <-isTrue c X.env (eval c X.env);pure (ForInStep.yield ok) else pure (ForInStep.yield r)) (TP X pins U Q) X.xe s
def f6:TT:=λ_ H Q=>Q true H
theorem dS:xM X [] f6:=λ_ _ _ H _ I h=>wpAny_tests_nil ⟨H,I,h⟩
theorem eY {c:Expr} {t:TT} (h:PT X c t):xM X [c] t:=λpins s U H Q I hw=>wpAny_tests_one (h pins s U H Q I hw)
variable {pos px:Pos}
theorem gB {prog:Program} {w:World} {A:Around} {R:Result->Shared->Prop} {s:Shared} {elt target iter:Expr} {ifs:List Expr} {it acc:Value} (I:Nat->Shared->Prop)
  (turn:∀n s,I n s->wpAny (model prog w) A (pyNext it) (fun r s1=>match r with
   | none=>R (.ok .next) s1
   | some v=>wpAny (model prog w) A (letOwnedTupleGo target it v) (λ_ s2=>wpAny (model prog w) A (assign target env v) (λ_ s3 =>
     wpAny (model prog w) A (forIn ifs true λc r=>if r=true then do let ok <-isTrue c env (eval c env);pure (ForInStep.yield ok) else pure (ForInStep.yield r)) (λok s4 =>
      if ok=true then wpAny (model prog w) A (eval elt env) (λx s5 =>
       wpAny (model prog w) A (call (.builtin "list.append") [acc,x]) (λ_ s6=>∃m,m<n/\I m s6) (λ_ _=>False) s5) (λ_ _=>False) s4
      else ∃m,m<n/\I m s4) (λ_ _=>False) s3) (λ_ _=>False) s2) (λ_ _=>False) s1) (λ_ _=>False) s)
  (n:Nat) (h:I n s):codeAny (model prog w) A (.compLoop (.ListComp elt [⟨target,iter,ifs,0⟩] scope pos) 0 it acc env) R s:=by
 refine codeAny_loop rfl I (λn s hI=>?_) n h;show wpAny _ A ((compTurn (.ListComp elt [⟨target,iter,ifs,0⟩] scope pos) 0 it acc env).onRaise (λx=>do noteFrame x env;theTreesLotGoes x)) _ _ s;refine wpAny_noted ?_;rw[compTurn_list];have no:∀{E:B0},∀e s',(λ(_:Value) (_:Shared)=>False) e s'->E e s':=λ_ _ z=>False.elim z;refine Qa (wpAny_standAt (Qa (XT (turn n s hI) (λr s1 h1=>?_) no)))
 cases r with
 | none=>exact Qf h1
 | some v =>
 refine Qa (XT h1 (λ_ s2 h2=>?_) no);refine Qa (XT h2 (λ_ s3 h3=>Qa (XT h3 (λok s4 h4=>?_) no)) no)
 cases ok with
 | false=>exact Qf ⟨rfl,h4⟩
 | true =>
 exact Qa (Qa (XT h4 (λx s5 h5=>Qa (XT h5 (λ_ s6 h6=>Qf (Qf ⟨rfl,h6⟩)) no)) no))
def bI (tgs:List Str) (cap:List (Str × Nat)) (U:St):St:=tgs.map (λ_=>none)++cap.map λc=>(U[c.2]?).join
def iy (wi:TI) (g:TG) (tt:TT) (te:TE) (f:St->St):TE:=λU H Q=>wi U H λJ H1=>∀D,H1 D=none->∃W:Nat->Nat->Hp->List V->Prop,(∃m,W 0 m (upd H1 D (.lst [])) []) /\
 ∀i m H ys,W i m H ys->H D=some (.lst ys)/\((J.stop i H/\Q (.ref D) H)\/(J.go i H/\∀x H',J.yld i H x H'->g x (f U) H' λσ2 H2=>wk (f U) σ2/\tt σ2 H2 λb H3 =>
  if b=true then te σ2 H3 λv H4=>H4 D=some (.lst ys)/\ys.length<sizeLine/\∃m',m'<m/\W (i+1) m' (upd H4 D (.lst (ys++[v]))) (ys++[v])
  else ∃m',m'<m/\W (i+1) m' H3 ys))
structure BlockOk (X:Cx) (scope:Scope) (tgs:List Str) (cap:List (Str × Nat)):Prop where
 kind:scope.kind=.function
 nocell:(scope.names.all λy=>!(y.2==NameKind.cell))=true
 names:(scope.names.all λy=>!(y.2==NameKind.local) || (scope.names.lookup y.1==some .local))=true
 free:(scope.names.all λy=>!(y.2==NameKind.free) || (X.env.scope.names.lookup y.1==some .cell) || (X.env.scope.names.lookup y.1==some .free))=true
 caps:(cap.all λc=>decide (X.N[c.2]?=some c.1)&&(scope.names.lookup c.1==some .free)&&(decide (X.env.scope.names.lookup c.1=some .cell) || decide (X.env.scope.names.lookup c.1=some .free)))=true
 tgl:(tgs.all λx=>(scope.names.lookup x==some .local))=true
section
variable {X:Cx} {scope:Scope} {tgs:List Str} {cap:List (Str × Nat)}
theorem BlockOk.cellAt (B:BlockOk X scope tgs cap) (ok:X.Ok):∀y∈scope.names,y.2=.free->∃c,X.env.cells.lookup y.1=some c:=λy hy hk=>by
 have q:=QT.mp B.free y hy;rw[hk]at q;refine ok.has y.1 ?_;simp only[beq_self_eq_true,X1,Bool.false_or,Bool.or_eq_true,beq_iff_eq]at q;exact q
theorem BlockOk.noc (B:BlockOk X scope tgs cap):∀y∈scope.names,y.2≠.cell:=λy hy hk=>by
 have q:=QT.mp B.nocell y hy;rw[hk]at q;simp at q
theorem BlockOk.locs (B:BlockOk X scope tgs cap):∀y∈scope.names,y.2=.local->scope.names.lookup y.1=some .local:=λy hy hk=>by
 have q:=QT.mp B.names y hy;rw[hk]at q;simpa using q
variable {pins:B1}
theorem Inv.enter {U:St} {H:Hp} {s:Shared} {h1:Heap} {tk:Nat} {fp:B3} (B:BlockOk X scope tgs cap) (I:Inv X pins U H s) (hfp:∀b∈fp,fi X pins H b) (hlt:∀b∈fp,b<s.heap.objs.size)
  (hns:h1.Ns s.heap.objs.size (λ_=>none)) (old:∀b o,s.heap.get? b=some o->h1.get? b=some o) :
  Inv (X.block (tgs++cap.map (·.1)) scope s.heap.objs.size s H fp) [] (bI tgs cap U) H { s with heap:=h1,toks:=tk }:=by
 have cellsIn:∀x c,(cH X.env scope.names []).lookup x=some c->X.env.cells.lookup x=some c:=λx c e=>v4 e (B.cellAt I.ok)
 have kindIn:∀x,((relabel scope X.env).names.lookup x=some .cell\/(relabel scope X.env).names.lookup x=some .free)->(x,NameKind.free)∈scope.names:=λx hx=>by
  have go:∀k,(relabel scope X.env).names.lookup x=some k->(k=.cell\/k=.free)->(x,NameKind.free)∈scope.names:=λk hk hc=>by
   obtain⟨k',e1,e2⟩:=kT hk;have m:=eE e1;rcases e2 with e2|⟨e2,_⟩
   ·subst e2;rcases hc with z|z
    ·exact absurd z (B.noc _ m)
    subst z;exact m
   subst e2;exact m
  rcases hx with h|h
  ·exact go _ h (.inl rfl)
  exact go _ h (.inr rfl)
 have nocl:∀x c,X.env.cells.lookup x=some c->c≠s.heap.objs.size:=λx c e=>by
  obtain⟨v,q⟩:=I.cell x c e;exact QB q.lt
 refine⟨⟨I.ok.mod,?_,I.ok.glob,I.ok.blt,Qg _,λx y c e1 e2=>I.ok.inj x y c (cellsIn x c e1) (cellsIn y c e2),λx hx=>?_,λx c hf _=>absurd (show false=true from hf) Qr,I.ok.hd,I.ok.frames,.inl rfl,
  λb hb=>⟨QB (hlt b hb),λx c e=>?_⟩,I.bs,QJ I.ok.bsz I.sz,λb o e hb=>?_,λb hb hf=>?_,I.stack,I.stkFree⟩,
  rfl,I.bare,Un.kept old,⟨_,hns,λi x v h2 h3 h4=>?_⟩,λx c e=>?_,?_,λx c e=>I.freeC x c (cellsIn x c e),λp hp=>absurd (show p∈([]:B1) from hp) (by simp),I.hok.kept old,?_⟩
 ·exact B.kind
 ·exact rH (kindIn x hx)
 ·exact(hfp b hb).2.2.2.2.1 x c (cellsIn x c e)
 ·-- no object of the base is an iterator of ours
  rcases(hfp b hb).2.2.2.1 with z|z
  ·exact I.ok.noex b o e z
  have q:=I.ok.bs b o e;exact absurd (QN (Qq q.1) z) (Zb _)
 ·have hf':b∈frs X.stack:=hf;rcases Qj.mp (I.stkSub b hf') with z|z
  ·exact(hfp b hb).2.1 z
  exact(hfp b hb).2.2.1 z
 ·-- a name that is known: one of the captured ones
  have hi:tgs.length<=i:=by
   by_cases hl:i<tgs.length
   ·exfalso;unfold bI at h3;rw[QC (by simpa using hl),Qp]at h3
    cases e:tgs[i]? with
    | none=>rw[e]at h3;cases h3
    | some z=>rw[e]at h3;cases h3
   exact om2 hl
  unfold bI at h3;rw[QK (by simpa using hi),Qb,Qp]at h3;have h2':(tgs++cap.map (·.1))[i]?=some x:=h2;rw[QK hi,Qp]at h2'
  cases e:cap[i-tgs.length]? with
  | none=>rw[e]at h2';cases h2'
  | some c =>
  rw[e]at h2' h3;have hx:c.1=x:=by simpa using h2'
  have hv:(U[c.2]?).join=some v:=by simpa using h3
  have hm:c∈cap:=Qk e;have q:=QT.mp B.caps c hm;simp only[Xz,decide_eq_true_eq,beq_iff_eq,Bool.or_eq_true]at q;obtain⟨⟨q1,q2⟩,q3⟩:=q
  have hσ:U[c.2]?=some (some v):=by
   cases z:U[c.2]? with
   | none=>rw[z]at hv;cases hv
   | some o =>
   rw[z]at hv;have:o=some v:=by simpa using hv
   rw[this]
  obtain⟨m,_,hl⟩:=I.loc
  obtain⟨u,r,l⟩:=hl c.2 c.1 v q1 hσ (by
   rcases q3 with z|z
   ·exact .inr (.inl z)
   exact .inr (.inr z))
  subst hx;refine⟨u,r,.inr ⟨kU q2,?_⟩⟩
  have nl:¬X.env.kindOf c.1=some .local:=λz=>by
   rcases q3 with y|y
   ·have:X.env.kindOf c.1=some .cell:=y;rw[this]at z;cases z
   have:X.env.kindOf c.1=some .free:=y;rw[this]at z;cases z
  rcases l with⟨l1,_⟩|⟨_,d,l2,l3⟩
  ·exact absurd l1 nl
  obtain⟨d',e'⟩:=rH (env:=X.env) (eE q2);have:d=d':=QF (l2.symm.trans (cellsIn _ _ e'));subst this;obtain⟨oc,ho,hd⟩:=l3;exact⟨d,e',oc,old d oc ho,hd⟩
 ·obtain⟨v,oc,ho,hd⟩:=I.cell x c (cellsIn x c e);exact⟨v,oc,old c oc ho,hd⟩
 ·exact I.hok.fresh (Qg _)
 unfold bI;show _=(tgs++cap.map (·.1)).length;simp
theorem Inv.leave {U σ':St} {H H':Hp} {s s':Shared} {h2:Heap} {fp:B3} {N:List Str} (I:Inv X pins U H s) (hfp:∀b∈fp,fi X pins H b)
  (J:Inv (X.block N scope s.heap.objs.size s H fp) [] σ' H' s') (hs:Heap.SameBut s.heap.objs.size s'.heap h2):Inv X pins U H' { s' with heap:=h2 }:=by
 have u:Un (frs X.stack) fp H H' s.heap s'.heap:=J.base;have ne:∀b o,s.heap.get? b=some o->b≠s.heap.objs.size:=λb o e=>QB (Qq e);have hf:H' s.heap.objs.size=none:=J.free;have k:∀b o,b≠s.heap.objs.size->s'.heap.get? b=some o->h2.get? b=some o:=λb o hb e=>(hs.2 b hb).trans e
 have u2:Un (frs X.stack) fp H H' s.heap h2 :=
  ⟨λb o e n h1 h3=>k b o (ne b o e) (u.keep b o e n h1 h3),λb o e n h1 h3=>let ⟨sl,q⟩:=u.slot b o e n h1 h3;⟨sl,k b _ (ne b o e) q⟩,u.free,λb o e h3=>let ⟨o',q⟩:=u.there b o e h3;⟨o',k b o' (ne b o e) q⟩,u.tups,u.frzs,u.tbls⟩
 have hok:HOk X.prog X.w H' h2:=λb ob e=>(J.hok b ob e).stay (λc v hc q=>k c v (by
  rcases hc with z|z
  ·subst z;intro y;rw[y,hf]at e;cases e
  intro y
  rw[y,hf]at z;cases z) q) (λ_ q=>q) λ_ _ q=>q
 exact Inv.call' I (s':={ s' with heap:=h2 }) J.os u2 hok J.bare λb hb=>by
  obtain⟨f0,f1,f2,f3,f4,f5⟩:=hfp b hb;exact⟨f3,f1,f4,f5⟩
theorem jQ {elt tg iter:Expr} {ifs:List Expr} {pos:Pos} {wi:TI} {g:TG} {tt:TT} {te:TE} (hc:X.calm=true) (B:BlockOk X scope tgs cap) (hi:PI X tg iter wi)
  (hg:∀C s H fp,PG (X.block (tgs++cap.map (·.1)) scope C s H fp) tg g) (ht:∀C s H fp,xM (X.block (tgs++cap.map (·.1)) scope C s H fp) ifs tt) (he:∀C s H fp,PE (X.block (tgs++cap.map (·.1)) scope C s H fp) elt te)
  (hs:∀x,foldedSetIterable iter X.env x=pure x:=by intro _;rfl):PE X (.ListComp elt [⟨tg,iter,ifs,0⟩] scope pos) (iy wi g tt te (bI tgs cap)):=by
 intro pins s U H Q I h;rw[eval_ListComp];refine wpAny_comprehension_free (use:=none) rfl hs (ji (B.cellAt I.ok)) B.kind B.locs (thn (hi pins s U H _ I h) λv s1 h1=>thn h1 λitv s2 h2=>?_);obtain⟨it,fp,tn,J,H2,e,I2,T,st2,f2,q⟩:=h2;subst e;have lt2:∀b∈fp,b<s2.heap.objs.size:=λb hb=>let ⟨o,e,_⟩:=T.obj _ _ st2 b hb;Qq e;have hD:H2 s2.heap.objs.size=none:=I2.hok.fresh (Qg _);obtain⟨W,⟨m0,w0⟩,turn⟩:=q s2.heap.objs.size hD;refine Xi ?_;have I3:Inv X pins U (upd H2 s2.heap.objs.size (.lst [])) { s2 with heap:=s2.heap.push { cls:=.type "list", dict:=none,data:=.seq ([]:List Value).toArray } }:=I2.lnew (t':=s2.toks) (ys:=[]) (its:=[]) .nil (QR _);have st3:tn 0 (s2.heap.push { cls:=.type "list", dict:=none,data:=.seq ([]:List Value).toArray }):=T.keep _ _ _ st2 λb _ o e=>Qc _ e;have nD:∀b∈fp,b≠s2.heap.objs.size:=λb hb=>QB (lt2 b hb);have f3:∀b∈fp,fi X pins (upd H2 s2.heap.objs.size (.lst [])) b:=λb hb=>⟨by rw[ah (nD b hb)];exact(f2 b hb).1,(f2 b hb).2⟩;generalize hs3:({ s2 with heap:=s2.heap.push { cls:=.type "list", dict:=none,data:=.seq ([]:List Value).toArray } }:Shared)=s3 at I3 st3 ⊢;have st3':tn 0 s3.heap:=by rw[<-hs3];exact st3
 have lt3:∀b∈fp,b<s3.heap.objs.size:=λb hb=>let ⟨o,e,_⟩:=T.obj _ _ st3' b hb;Qq e;generalize hH3:upd H2 s2.heap.objs.size (.lst [])=H3 at I3 f3 w0;generalize s2.heap.objs.size=D at *;refine wpAny_newFunctionEnv B.noc (by intro y hy;simp at hy) (λh1 hns hsb=>?_) B.kind;have old:∀b o,s3.heap.get? b=some o->h1.get? b=some o:=λb o e=>hsb.extBut b o (QB (Qq e)) (Qc _ e);have I4:=Inv.enter (tk:=s3.toks+([]:List (Str × Value)).length) (h1:=h1) B I3 f3 lt3 hns old;have st4:tn 0 h1:=T.keep _ _ _ st3' λb _ o e=>old b o e
 have fpB:∀{H':Hp},(∀b∈fp,H' b=none)->∀b∈fp,fi (X.block (tgs++cap.map (·.1)) scope s3.heap.objs.size s3 H3 fp) [] H' b:=λ{H'} hn b hb =>
  ⟨hn b hb,QB (lt3 b hb),I4.ok.exfs b hb,.inl hb,λx c e=>(I4.ok.exf b hb).2 x c e,λp hp=>absurd (show p∈([]:B1) from hp) (by simp)⟩
 have loop:codeAny (model X.prog X.w) X.A (.compLoop (.ListComp elt [⟨tg,iter,ifs,0⟩] scope pos) 0 (.ref it) (.ref D) (compEnvC scope (cH X.env scope.names []) s3.heap.objs.size X.env))
   (compPost (model X.prog X.w) X.A X.xe none (EP X pins U Q) (.ref D) s3.heap.objs.size) { s3 with heap:=h1,toks:=s3.toks+([]:List (Str × Value)).length }:=by
  refine gB (λn s'=>∃i H' ys,Inv (X.block (tgs++cap.map (·.1)) scope s3.heap.objs.size s3 H3 fp) [] (bI tgs cap U) H' s'/\tn i s'.heap/\(∀b∈fp,H' b=none)/\W i n H' ys) ?_ m0 ⟨0,H3,[],I4,st4,λb hb=>(f3 b hb).1,w0⟩;rintro n s5 ⟨i,H5,ys,I5,st5,fr5,w5⟩;obtain⟨hl,ht5⟩:=turn i n H5 ys w5;rcases ht5 with⟨stop,qd⟩|⟨go,step⟩
  ·refine thn (T.done (X.block (tgs++cap.map (·.1)) scope s3.heap.objs.size s3 H3 fp) rfl rfl rfl hc i [] s5 _ H5 _ I5 (fpB fr5) st5 stop) λr s6 ⟨hr,I6⟩=>?_;subst hr;obtain⟨m6,n6,_⟩:=I6.loc;exact⟨m6,n6,λh' hs'=>⟨.ref D,H5,Inv.leave I3 f3 I6 hs',rfl,qd⟩⟩
  refine thn (T.item (X.block (tgs++cap.map (·.1)) scope s3.heap.objs.size s3 H3 fp) rfl rfl rfl hc i [] s5 _ H5 _ I5 (fpB fr5) st5 go) λr s6 ⟨u,hr,h6⟩=>?_;subst hr;refine thn h6 λ_ s7 ⟨x,H7,I7,r7,y7,st7,fr7⟩=>?_;have I7':=I7.pinned (fpB fr7) (T.obj _ _ st7)
  have again:∀{σ8:St} {H8:Hp} {s8:Shared} {ys8:List V},Inv (X.block (tgs++cap.map (·.1)) scope s3.heap.objs.size s3 H3 fp) ([]++gN fp s7.heap) σ8 H8 s8->wk (bI tgs cap U) σ8->(∃m',m'<n/\W (i+1) m' H8 ys8) ->
    ∃m,m<n/\∃i H' ys,Inv (X.block (tgs++cap.map (·.1)) scope s3.heap.objs.size s3 H3 fp) [] (bI tgs cap U) H' s8/\tn i s8.heap/\(∀b∈fp,H' b=none)/\W i m H' ys:=λ{σ8 H8 s8 ys8} I8 k8 ⟨m',hm,w8⟩=>by
   refine⟨m',hm,i+1,H8,ys8,I8.unpinned.weak (kD k8) (kG k8),T.keep _ _ _ st7 λb hb o e=>(I8.pin (b,o) (QH _ (QH _ (cJ hb e)))).1,λb hb=>?_,w8⟩;obtain⟨o,e,d⟩:=T.obj _ _ st7 b hb;exact(I8.pin (b,o) (QH _ (QH _ (cJ hb e)))).2.1
  refine thn (hg _ _ _ _ _ s7 _ H7 x u _ I7' r7 (step x H7 y7)) λ_ s8 ⟨σ8,H8,I8,k8,q8⟩=>?_;refine thn (ht _ _ _ _ _ s8 σ8 H8 _ I8 q8) λok s9 ⟨H9,I9,q9⟩=>?_
  cases ok with
  | false =>
   rw[Qo Qr]at q9 ⊢;exact again I9 k8 q9
  | true =>
  rw[Qs rfl]at q9 ⊢;refine thn (he _ _ _ _ _ s9 σ8 H9 _ I9 q9) λy sA ⟨yv,HA,IA,rA,hA,zA,qA⟩=>?_;exact thn (bt _ sA σ8 HA (.ref D) [yv] (.ref D) [y] (λv H'=>v=.non/\∃m',m'<n/\W (i+1) m' H' (ys++[yv])) IA rfl (.cons rA .nil) ⟨D,ys,yv,rfl,rfl,hA,zA,rfl,qA⟩) λ_ sB ⟨_,HB,IB,_,_,qB⟩=>again IB k8 qB
 exact codeAny_compStart_list loop (T.self _ 0 _ _ _ st4 loop)
theorem dW {X:Cx} {scope:Scope} {elt iter:Expr} {p pos:Pos} {wi:TI} {te:TE} (x:Str) (cap:List (Str × Nat)) (hi:PI X (.Name x p) iter wi) (he:∀C s H fp,PE (X.block ([x]++cap.map (·.1)) scope C s H fp) elt te) (hc:X.calm=true:=by rfl) (B:BlockOk X scope [x] cap:=by exact⟨rfl,rfl,rfl,rfl,rfl,rfl⟩) (hN:([x]++cap.map (·.1)).Nodup:=by decide +kernel) (hg:([x]++cap.map (·.1)).Nodup->∀C s H fp,PG (X.block ([x]++cap.map (·.1)) scope C s H fp) (.Name x p) (d5 0):=by intro h _ _ _ _;exact bw (i:=0) h rfl (by z_go)) (hs:∀x,foldedSetIterable iter X.env x=pure x:=by intro _;rfl):PE X (.ListComp elt [⟨.Name x p,iter,[],0⟩] scope pos) (iy wi (d5 0) f6 te (bI [x] cap)):=jQ hc B hi (hg hN) (λ_ _ _ _=>dS) he hs
end
def Itf (n:Nat) (f:Nat->V):It:=⟨λi _=>i<n,λi H x H'=>H'=H/\x=f i,λi _=>i=n⟩
variable {n i:Nat}
theorem iw {P:Program} {w:World} {K:PySem.W.Frag} {f:Nat->V} {Pv:Nat->Value->Prop} {St:Nat->Heap->Prop}
  (W:∀A:Around,A.handled=none->Walks P w A it [it] [it] n Pv St) (hP:∀i v,Pv i v->aL (f i) v) (hobj:∀i h,St i h->∃o,h.get? it=some o/\∀v,o.data≠.cell v)
  (hfr:∀i h h',St i h->(∀o,h.get? it=some o->h'.get? it=some o)->St i h')
  (hself:∀(A:Around) (i:Nat) (s:Shared) (Q:B0) (E:B0),St i s.heap->Q (.ref it) s->wpAny (model P w) A (pyIter (.ref it)) Q E s) :
  Turn P w K (.Name x px) (Itf n f) [it] it St where
 mem:=by simp
 obj:=λi h st b hb=>by
  have e:b=it:=by simpa using hb
  subst e;exact hobj i h st
 keep:=λi h h' st k=>hfr i h h' st λo e=>k it (by simp) o e
 item:=by
  intro X hP' hw hK hc i pins s U H E I hf st hg;subst hP' hw hK;obtain⟨f0,f1,f2,f3,f4,f5⟩:=hf it (by simp);refine(W X.A (I.ok.hd hc)).item i s _ _ hg st λv h' tk hv st' kk=>?_;have I1:Inv X pins U H { s with heap:=h',toks:=tk }:=I.turned (λb o hb e=>kk b o (by simpa using hb) e) f0 f1 f3 f4 f5;refine⟨v,rfl,wpAny_of_eq (a:=()) (by rfl) ⟨f i,H,I1,hP i v hv,⟨rfl,rfl⟩,st',λb hb=>(hf b hb).1⟩⟩
 done:=by
  intro X hP' hw hK hc i pins s U H E I hf st hg;subst hP' hw hK;obtain⟨f0,f1,f2,f3,f4,f5⟩:=hf it (by simp);have e:i=n:=hg;subst e;exact(W X.A (I.ok.hd hc)).done s _ _ st λh' tk kk=>⟨rfl,I.turned (λb o hb e=>kk b o (by simpa using hb) e) f0 f1 f3 f4 f5⟩
 self:=λA i s Q E st h=>hself A i s Q E st h
def f9 (z:Str) (i:Nat):V:=.str ⟨#[z.cps.getD i 0]⟩
theorem iE {v:Value} (h:SignAt z i v):aL (f9 z i) v:=by
 obtain⟨c,u,h1,h2⟩:=h;subst h2;refine⟨u,?_⟩;have:z.cps.getD i 0=c:=by rw[Xe,h1];rfl
 rw[this]
theorem tJ {P:Program} {w:World} {K:PySem.W.Frag} {t:Tok} {ty:String} (hty:ty = "str_ascii_iterator" \/ ty = "str_iterator") :
  Turn P w K (.Name x px) (Itf z.cps.size (f9 z)) [it] it (λi h=>h.IsStrIter it ty z t i):=by
 rcases hty with e|e
 ·subst e
  exact iw (λA hA=>Walks.strAscii hA it z t) (λi v h=>iE h) (λi h st=>let ⟨o,e,_,d⟩:=st;⟨o,e,λv q=>by rw[d]at q;cases q⟩)
   (λi h h' st k=>let ⟨o,e,r⟩:=st;⟨o,k o e,r⟩) λA i s Q E st q=>wpAny_pyIter_striter_ascii st q
 subst e
 exact iw (λA hA=>Walks.strWide hA it z t) (λi v h=>iE h) (λi h st=>let ⟨o,e,_,d⟩:=st;⟨o,e,λv q=>by rw[d]at q;cases q⟩)
  (λi h h' st k=>let ⟨o,e,r⟩:=st;⟨o,k o e,r⟩) λA i s Q E st q=>wpAny_pyIter_striter_wide st q
section
variable {X:Cx} {x:Str} {px:Pos}
def AU (tl:TE):TI:=λU H R=>tl U H λv H1=>∃z:Str,v=.str z/\R (Itf z.cps.size (f9 z)) H1
theorem uD {l:Expr} {tl:TE} (hl:PE X l tl):PI X (.Name x px) l (AU tl):=by
 intro pins s U H R I h;refine thn (hl pins s U H _ I h) λv s1 ⟨y,H1,I1,r1,q1⟩=>?_;obtain⟨z,e,q⟩:=q1;subst e;obtain⟨t,e⟩:=r1;subst e
 have fin:∀ty:String,(ty = "str_ascii_iterator" \/ ty = "str_iterator")->PIE X pins U (.Name x px) R (.ref s1.heap.objs.size) { s1 with heap:=s1.heap.push { cls:=.type ty,data:=.fields #[.str z t,.int 0 0] } }:=λty hty=>by
  refine⟨s1.heap.objs.size,[s1.heap.objs.size],_,_,H1,rfl,I1.kept (t':=s1.toks) λb o e=>Qc _ e,tJ (t:=t) hty,⟨_,Qt _ rfl,rfl,rfl⟩,λb hb=>?_,q⟩;have e:b=s1.heap.objs.size:=by simpa using hb
  subst e;exact I1.fpOk (Qg _) (I1.hok.fresh (Qg _))
 cases ha:z.cps.all (·<128) with
 | false=>exact wpAny_pyIter_wide ha (fin _ (.inr rfl))
 | true=>exact wpAny_pyIter_ascii ha (fin _ (.inl rfl))
end
section
variable {X:Cx}
def Ai:V->Option Int->Option Int->Hp->VK->Prop:=λx lo hi H Q=>∃z:Str,x=.str z/\z.length<=sizeLine/\Q (.str (Txt.slice z lo hi)) H
theorem fQ:SlR X Ai:=by
 intro pins s U H x v vl vu lo hi sl Q I rx hs pl pu h;obtain⟨z,e,hz,q⟩:=h;subst e;obtain⟨t,e⟩:=rx;subst e;refine⟨"str", _,F.slot_str_getitem.lookup,typeIs_str _ _ _,?_⟩;have fin:∀(t':Tok) (k:Nat),EP X pins U Q (.str (Txt.slice z lo hi) t') { s with toks:=k }:=λt' k=>⟨.str _,H,I.tok k,⟨t',rfl⟩,q⟩
 cases pl with
 | none =>
  cases pu with
  | none=>exact wpAny_getItem_str_slice (l:=none) (u:=none) (st:=none) hs rfl (post_val_or_str ⟨QJ (Txt.slice_le z _ _) hz,fin⟩)
  | int j uj=>exact wpAny_getItem_str_slice (l:=none) (u:=some (j,uj)) (st:=none) hs rfl (post_val_or_str ⟨QJ (Txt.slice_le z _ _) hz,fin⟩)
 | int i ui =>
 cases pu with
 | none=>exact wpAny_getItem_str_slice (l:=some (i,ui)) (u:=none) (st:=none) hs rfl (post_val_or_str ⟨QJ (Txt.slice_le z _ _) hz,fin⟩)
 | int j uj=>exact wpAny_getItem_str_slice (l:=some (i,ui)) (u:=some (j,uj)) (st:=none) hs rfl (post_val_or_str ⟨QJ (Txt.slice_le z _ _) hz,fin⟩)
theorem eA:∀{ys:List Str} {us:List Value},aQ (ys.map V.str) us->StrsAre us ys
 | [],_,r=>by
  rw[List.map_nil]at r;cases r;exact .nil
 | y::ys,_,r=>by
  rw[Qw]at r
  cases r with
  | cons r1 r2 =>
  obtain⟨t,e⟩:=r1;subst e;exact .cons y t (eA r2)
def Al (K:PySem.W.Frag):V->List V->Hp->VK->Prop:=λx vs H Q=>∃(z:Str) (l:Addr) (ys:List Str),x=.str z/\vs=[.ref l]/\SqL K H l (ys.map V.str)/\(ys.map (·.length)).sum+ys.length*z.length<=16777216/\Q (.str (Txt.join z ys)) H
theorem wY:MtR X "str.join" (Al X.K):=by
 intro pins s U H x vs v us Q I rx rv h;obtain⟨z,l,ys,e1,e2,hl,hz,q⟩:=h;subst e1 e2;obtain⟨t,e⟩:=rx;subst e;obtain⟨u,e,ru⟩:=rv.one;subst e;cases ru;obtain⟨its,r,pl,_⟩:=I.list hl;exact join_list pl.isList (by simpa using eA r) hz λt' k=>⟨.str _,H,I.tok k,⟨t',rfl⟩,q⟩
theorem sV (ys:List Str):(Txt.join Str.empty ys).cps.toList=(ys.map (·.cps.toList)).flatten:=by
 unfold Txt.join;rw[PySem.StrLaws.glued_eq_join]
 induction ys with
 | nil=>rfl
 | cons y r ih =>
 cases r with
 | nil=>simp[Str.join]
 | cons y2 r2 =>
 show (y++Str.empty++Str.join Str.empty (y2::r2)).cps.toList=_;rw[Qw,List.flatten_cons,<-ih];show (y.cps++Str.empty.cps++(Str.join Str.empty (y2::r2)).cps).toList=_;simp[Str.empty]
end
inductive EqD (K:PySem.W.Frag) (H:Hp):Nat->V->V->Bool->Prop
 | flat {n:Nat} {x y:V}:bY x=true->bY y=true->EqD K H n x y (eqV x y)
 | same {n:Nat} {a:Addr}:EqD K H n (.ref a) (.ref a) true
 | lists {n:Nat} {a b:Addr} {xs ys:List V} {e:Nat->Bool}:SqL K H a xs->SqL K H b ys->xs.length=ys.length->(∀(j:Nat) x y,xs[j]?=some x->ys[j]?=some y->EqD K H n x y (e j))->a≠b ->
   EqD K H (n+1) (.ref a) (.ref b) ((List.range xs.length).all e)
 | tups {n:Nat} {a b:Addr} {xs ys:List V} {e:Nat->Bool}:SqT K H a xs->SqT K H b ys->(∀(j:Nat) x y,xs[j]?=some x->ys[j]?=some y->EqD K H n x y (e j))->a≠b ->
   EqD K H (n+1) (.ref a) (.ref b) ((List.range (min xs.length ys.length)).all e&&xs.length==ys.length)
theorem EqD.at {X:Cx} {pins:B1} {U:St} {H:Hp} {s:Shared} (I:Inv X pins U H s) {n:Nat} {x y:V} {b:Bool} (h:EqD X.K H n x y b) :
  ∀{A:Around} {u v:Value},A.units+n<cLine->aL x u->aL y v->SeqAt.EqAt A s u v b:=by
 induction h with
 | flat fx fy=>intro A u v _ rx ry;exact vU rx ry fx fy
 | same =>
  intro A u v _ rx ry;cases rx;cases ry;exact SeqAt.EqAt.same _
 | @lists n a c xs ys e ha hb hl hi hne ih =>
  intro A u v hu rx ry;cases rx;cases ry;obtain⟨its,r1,p1,_⟩:=I.list ha;obtain⟨its2,r2,p2,_⟩:=I.list hb;have l1:=r1.length;have l2:=r2.length;refine SeqAt.EqAt.of_refs hne ?_
  have q:=SeqAt.RcAt.lists (A:=A) (e:=e) p1.isList p2.isList (by rw[Ql,Ql];exact om7 hl l1 l2) (by exact om8 hu) λj h1 h2=>by
   rw[Ql]at h1 h2;have e1:xs[j]?=some xs[j]:=Qe (by exact om9 hl l1 l2 h1);have e2:ys[j]?=some ys[j]:=Qe (by exact Bc hl l1 l2 h1);obtain⟨w1,g1,rr1⟩:=r1.get e1;obtain⟨w2,g2,rr2⟩:=r2.get e2
   have g1':its.toArray[j]=w1:=by
    have:=(Qd.mp g1).2;simpa using this
   have g2':its2.toArray[j]=w2:=by
    have:=(Qd.mp g2).2;simpa using this
   rw[g1',g2'];exact ih j _ _ e1 e2 (by show A.units+1+n<cLine;exact AC hu) rr1 rr2
  rw[Ql,<-l1]at q;exact q
 | @tups n a c xs ys e ha hb hi hne ih =>
 intro A u v hu rx ry;cases rx;cases ry;obtain⟨its,r1,p1,_⟩:=I.tuple ha;obtain⟨its2,r2,p2,_⟩:=I.tuple hb;have l1:=r1.length;have l2:=r2.length;refine SeqAt.EqAt.of_refs hne ?_
 have q:=SeqAt.RcAt.tuples (A:=A) (e:=e) (show s.heap.IsTuple a its.toArray from p1) (show s.heap.IsTuple c its2.toArray from p2) (by exact om8 hu) λj h1 h2=>by
  rw[Ql]at h1 h2;have e1:xs[j]?=some xs[j]:=Qe (by exact uR l1 h1);have e2:ys[j]?=some ys[j]:=Qe (by exact uR l2 h2);obtain⟨w1,g1,rr1⟩:=r1.get e1;obtain⟨w2,g2,rr2⟩:=r2.get e2
  have g1':its.toArray[j]=w1:=by
   have:=(Qd.mp g1).2;simpa using this
  have g2':its2.toArray[j]=w2:=by
   have:=(Qd.mp g2).2;simpa using this
  rw[g1',g2'];exact ih j _ _ e1 e2 (by show A.units+1+n<cLine;exact AC hu) rr1 rr2
 rw[Ql,Ql,<-l1,<-l2]at q;exact q
section
variable {X:Cx}
theorem EqD.items {pins:B1} {U:St} {H:Hp} {s:Shared} (I:Inv X pins U H s) {n:Nat} {A:Around} (hu:A.units+1+n<cLine) {xs ys:List V} {its its2:List Value} (r1:aQ xs its) (r2:aQ ys its2) {e:Nat->Bool}
  (h:∀(j:Nat) x y,xs[j]?=some x->ys[j]?=some y->EqD X.K H n x y (e j)) (j:Nat) (h1:j<its.toArray.size) (h2:j<its2.toArray.size):SeqAt.EqAt A.in1 s its.toArray[j] its2.toArray[j] (e j):=by
 have l1:=r1.length;have l2:=r2.length;rw[Ql]at h1 h2;have e1:xs[j]?=some xs[j]:=Qe (by exact AB h1 l1);have e2:ys[j]?=some ys[j]:=Qe (by exact AB h2 l2);obtain⟨w1,g1,rr1⟩:=r1.get e1;obtain⟨w2,g2,rr2⟩:=r2.get e2
 have g1':its.toArray[j]=w1:=by
  have:=(Qd.mp g1).2;simpa using this
 have g2':its2.toArray[j]=w2:=by
  have:=(Qd.mp g2).2;simpa using this
 rw[g1',g2'];exact EqD.at I (h j _ _ e1 e2) (by show A.units+1+n<cLine;exact hu) rr1 rr2
def oW (K:PySem.W.Frag) (neg:Bool):R2:=λx y H Q=>∃a b xs ys e,x=.ref a/\y=.ref b/\SqL K H a xs/\SqL K H b ys/\(∀(j:Nat) x y,xs[j]?=some x->ys[j]?=some y->EqD K H 8 x y (e j)) /\
 Q (.bl (if neg then !(xs.length==ys.length&&(List.range xs.length).all e) else (xs.length==ys.length&&(List.range xs.length).all e))) H
def r_ (K:PySem.W.Frag) (neg:Bool):R2:=λx y H Q=>∃a b xs ys e,x=.ref a/\y=.ref b/\SqT K H a xs/\SqT K H b ys/\(∀(j:Nat) x y,xs[j]?=some x->ys[j]?=some y->EqD K H 8 x y (e j)) /\
 Q (.bl (if neg then !((List.range (min xs.length ys.length)).all e&&xs.length==ys.length) else ((List.range (min xs.length ys.length)).all e&&xs.length==ys.length))) H
theorem pf (hu:X.A.units+64<cLine):OpR X (compareOp .Eq) (oW X.K false):=by
 intro pins s U H x y v u Q I rx ry h;obtain⟨a,b,xs,ys,e,e1,e2,ha,hb,hi,q⟩:=h;subst e1 e2;cases rx;cases ry;obtain⟨its,r1,p1,_⟩:=I.list ha;obtain⟨its2,r2,p2,_⟩:=I.list hb;have l1:=r1.length;have l2:=r2.length;by_cases hl:xs.length=ys.length
 ·refine SeqAt.eq_listAt (e:=e) p1.isList p2.isList (by rw[Ql,Ql];exact AA l1 l2 hl) (by exact sm hu) (EqD.items I (by exact wE hu) r1 r2 hi) ⟨.bl _,H,I,rfl,?_⟩;rw[Ql,<-l1];have:(xs.length==ys.length)=true:=by simpa using hl
  rw[this]at q;exact q
 refine SeqAt.eq_list_lengthsAt p1.isList p2.isList (by rw[Ql,Ql,<-l1,<-l2];simpa using hl) (by exact sm hu) ⟨.bl _,H,I,rfl,?_⟩;have:(xs.length==ys.length)=false:=by simpa using hl
 rw[this]at q;exact q
theorem kZ (hu:X.A.units+64<cLine):OpR X (compareOp .NotEq) (oW X.K true):=by
 intro pins s U H x y v u Q I rx ry h;obtain⟨a,b,xs,ys,e,e1,e2,ha,hb,hi,q⟩:=h;subst e1 e2;cases rx;cases ry;obtain⟨its,r1,p1,_⟩:=I.list ha;obtain⟨its2,r2,p2,_⟩:=I.list hb;have l1:=r1.length;have l2:=r2.length;by_cases hl:xs.length=ys.length
 ·refine SeqAt.RcNeAt.lists (e:=e) p1.isList p2.isList (by rw[Ql,Ql];exact AA l1 l2 hl) (by exact sm hu) (EqD.items I (by exact wE hu) r1 r2 hi) _ _ _ _ ⟨.bl _,H,I,rfl,?_⟩;rw[Ql,<-l1];have:(xs.length==ys.length)=true:=by simpa using hl
  rw[this]at q;exact q
 refine SeqAt.RcNeAt.lists_lengths p1.isList p2.isList (by rw[Ql,Ql,<-l1,<-l2];simpa using hl) (by exact sm hu) _ _ _ _ ⟨.bl _,H,I,rfl,?_⟩;have:(xs.length==ys.length)=false:=by simpa using hl
 rw[this]at q;exact q
theorem gP (hu:X.A.units+64<cLine):OpR X (compareOp .Eq) (r_ X.K false):=by
 intro pins s U H x y v u Q I rx ry h;obtain⟨a,b,xs,ys,e,e1,e2,ha,hb,hi,q⟩:=h;subst e1 e2;cases rx;cases ry;obtain⟨its,r1,p1,_⟩:=I.tuple ha;obtain⟨its2,r2,p2,_⟩:=I.tuple hb;have l1:=r1.length;have l2:=r2.length;refine SeqAt.eq_tupleAt (e:=e) (show s.heap.IsTuple a its.toArray from p1) (show s.heap.IsTuple b its2.toArray from p2) (by exact sm hu) (EqD.items I (by exact wE hu) r1 r2 hi) ⟨.bl _,H,I,rfl,?_⟩;rw[Ql,Ql,<-l1,<-l2];exact q
theorem pc (hu:X.A.units+64<cLine):OpR X (compareOp .NotEq) (r_ X.K true):=by
 intro pins s U H x y v u Q I rx ry h;obtain⟨a,b,xs,ys,e,e1,e2,ha,hb,hi,q⟩:=h;subst e1 e2;cases rx;cases ry;obtain⟨its,r1,p1,_⟩:=I.tuple ha;obtain⟨its2,r2,p2,_⟩:=I.tuple hb;have l1:=r1.length;have l2:=r2.length;refine SeqAt.RcNeAt.tuples (e:=e) (show s.heap.IsTuple a its.toArray from p1) (show s.heap.IsTuple b its2.toArray from p2) (by exact sm hu) (EqD.items I (by exact wE hu) r1 r2 hi) _ _ _ _ ⟨.bl _,H,I,rfl,?_⟩;rw[Ql,Ql,<-l1,<-l2];exact q
end
section
variable {X:Cx}
theorem bE:dG X (.builtin "isinstance") (λxs H Q=>∃x T ty b,xs=[x,.ty T]/\TyOf X.K H x ty/\PySem.W.kitOne X.K ty (.type T)=some b/\Q (.bl b) H):=by
 intro pins s U H xs us Q I r h;obtain⟨x,T,ty,b,e,t,k,q⟩:=h;subst e;obtain⟨u1,u2,e,r1,r2⟩:=lV r;subst e;cases r2;exact sR I r1 t k λtk=>⟨.bl b,H,I.tok tk,rfl,q⟩
theorem cU {K:PySem.W.Frag} (T:String):PySem.W.kitOne K (.type T) (.type T)=some true:=by
 unfold PySem.W.kitOne;rw[Qs (by simp)]
theorem tw (bs:List Bool):(List.range bs.length).all (λi=>bs.getD i false)=bs.all id:=by
 rw[XR];simp only[QT,Xx]
 constructor
 ·intro h x hx;obtain⟨i,hi,e⟩:=List.mem_iff_getElem.mp hx;have q:=h i hi;rw[Qx,Qe hi,Option.getD_some,e]at q;exact q
 intro h i hi;rw[Qx,Qe hi,Option.getD_some];exact h _ (Q9 hi)
theorem cW (hc:X.calm=true):dG X (.builtin "all") (λxs H Q=>∃(l:Addr) (bs:List Bool),xs=[.ref l]/\SqL X.K H l (bs.map V.bl)/\Q (.bl (bs.all id)) H):=by
 intro pins s U H xs us Q I r h;obtain⟨l,bs,e,hl,q⟩:=h;subst e;obtain⟨u,e,ru⟩:=cZ r;subst e;cases ru;obtain⟨its,rv,pl,hz⟩:=I.list hl;have hlen:=rv.length;rw[Qb]at hlen
 have ne:l≠s.heap.objs.size:=by
  obtain⟨o,ho,_⟩:=pl.isList;exact QB (Qq ho)
 refine call_all_walk (wpAny_pyIter_list pl.isList ?_);refine⟨s.heap.objs.size,_,_,_,_,_,(λi=>bs.getD i false),rfl,Walks.list (show X.A.in1.handled=none from I.ok.hd hc) s.heap.objs.size l ne its.toArray,⟨⟨_,Qt _ rfl,rfl,rfl⟩,pl.isList.push _⟩,?_,λh' tk hk=>?_⟩
 ·intro i v s' Q' E' hP hQ;have hP':its[i]?=some v:=by simpa using hP
  have hi:i<bs.length:=by
   have:=(Qd.mp hP').1;exact uR hlen this
  have e1:(bs.map V.bl)[i]?=some (.bl (bs.getD i false)):=by
   rw[Qp,Qe hi,Qx,Qe hi];rfl
  obtain⟨u,hu,ru⟩:=rv.get e1;rw[hP']at hu;cases hu;cases ru;exact XW hQ
 have hs:its.toArray.size=bs.length:=by rw[Ql];exact hlen.symm
 rw[hs,tw]
 exact⟨.bl _,H,I.kept λb o e=>hk b o (by
  have:=Qq e;simp only[Qy]
  exact QB this) (Qc _ e),rfl,q⟩
abbrev ix (K:PySem.W.Frag) (T:Addr) (D:List (Str × KTD.Dat)):Prop:=KTD.tabLook (KTD.datLooks λa=>K.lookup a) (λa=>K.lookup a) T D=true
theorem si {T:Addr} {D:List (Str × KTD.Dat)} (hT:ix X.K T D):OpR X (compareOp .In) (λx y H Q=>∃z,x=.str z/\y=.ref T/\Q (.bl (KTD.inKeys z D)) H):=by
 intro pins s U H x y v u Q I rx ry h;obtain⟨z,e1,e2,q⟩:=h;subst e1 e2;obtain⟨t,e⟩:=rx;subst e;cases ry;exact KTD.in_text (h₀:=X.base) ⟨KTD.text_of_look (get:=λa=>X.K.lookup a) (λa o e=>I.mod.kin a o e) hT,I.bk⟩ ⟨.bl _,H,I.tok _,rfl,q⟩
theorem pd:OpR X (binaryOp .Mult) (λx y H Q=>∃z n,x=.str z/\y=.int n/\MulOk z n/\Q (.str (Txt.mul z n)) H):=by
 intro pins s U H x y v u Q I rx ry h;obtain⟨z,n,e1,e2,hm,q⟩:=h;subst e1 e2;obtain⟨t,e⟩:=rx;subst e;obtain⟨t',e⟩:=ry;subst e;exact SB.mul hm λt' k=>⟨.str _,H,I.tok k,⟨t',rfl⟩,q⟩
end
theorem Inv.turned2 {pins:B1} {U:St} {s:Shared} {h':Heap} {t':Nat} {o:HO} (I:Inv X pins U H s) (k:∀b o,b≠e->b≠it->s.heap.get? b=some o->h'.get? b=some o)
  (f1:fi X pins H e) (f2:fi X pins H it) (hT:s.heap.objs.size<=T) (new:be X.prog X.w (upd H T o) h' T o):Inv X pins U (upd H T o) { s with heap:=h',toks:=t' }:=by
 have hn:H T=none:=I.hok.fresh hT;have nT:∀b u,s.heap.get? b=some u->b≠T:=λb u q=>QB (QN (Qq q) hT);have n1:∀b u,H b=some u->b≠e:=λb u q z=>by rw[z,f1.1]at q;cases q
 have n2:∀b u,H b=some u->b≠it:=λb u q z=>by rw[z,f2.1]at q;cases q
 have kk:∀b u,b∉[e,it]->s.heap.get? b=some u->h'.get? b=some u:=λb u hc q=>k b u (λz=>hc (by simp[z])) (λz=>hc (by simp[z])) q
 refine I.step (g':=s.gens) (d':=s.drawn) (ch:=[e,it]) (λb hb=>?_) (λb u _ _ hc q _=>kk b u hc q) (λb u _ _ hc q _=>⟨u.slots,kk b u hc q⟩) (λb u _ q n=>by rw[ah (nT b u q)];exact n)
  (λb u hc q=>⟨u,kk b u hc q⟩) (λb xs q=>by rw[ah (ao q hn)];exact q) (λb u xs q=>by rw[ah (ao q hn)];exact q) (λb ps q=>⟨#[],by rw[ah (ao q hn),q];simp⟩) (λm hm=>?_) (λb u q=>?_) I.bare
 ·have z:b=e\/b=it:=by simpa using hb
  rcases z with z|z
  ·subst z;obtain⟨_,a2,_,a4,a5,a6⟩:=f1;exact⟨a4,a2,a5,a6⟩
  subst z;obtain⟨_,a2,_,a4,a5,a6⟩:=f2;exact⟨a4,a2,a5,a6⟩
 ·obtain⟨ob,es,ep,ho,r⟩:=hm;exact⟨ob,es,ep,k _ ob (Ne.symm f1.2.1) (Ne.symm f2.2.1) ho,r⟩
 by_cases hb:b=T
 ·subst hb;rw[af]at q;cases q;exact new
 rw[ah hb]at q;refine(I.hok b u q).stay (λc v hc z=>k c v ?_ ?_ z) (λc z=>by rw[ah (ao z hn)];exact z) λc xs z=>by rw[ah (ao z hn)];exact z
 ·rcases hc with z|z
  ·rw[z];exact n1 b u q
  exact n1 c _ z
 rcases hc with z|z
 ·rw[z];exact n2 b u q
 exact n2 c _ z
noncomputable def Ite (K:PySem.W.Frag) (a:Addr):It :=
 ⟨λi H=>∃xs x,SqL K H a xs/\xs[i]?=some x,λi H x H'=>∃T v,H T=none/\x=.ref T/\H'=upd H T (.tup [.int (i:Nat),v])/\∀xs,SqL K H a xs->xs[i]?=some v,λi H=>∃xs,SqL K H a xs/\xs.length<=i⟩
theorem rP {P:Program} {w:World} {K:PySem.W.Frag} {elts:List Expr} {k:Nat} (a e it:Addr) (hne:e≠it) :
  Turn P w K (.Tuple elts k pos) (Ite K a) [e,it] e (λi h=>(∃old,IsEnum h e it (i:Nat) old)/\h.IsListIter it a i) where
 mem:=by simp
 obj:=λi h st b hb=>by
  obtain⟨⟨old,he⟩,o,ho,hc,hd⟩:=st;have z:b=e\/b=it:=by simpa using hb
  rcases z with z|z
  ·subst z
   exact⟨_,he,λv q=>by
    have q':Data.fields _=Data.cell v:=q
    cases q'⟩
  subst z;exact⟨o,ho,λv q=>by rw[hd]at q;cases q⟩
 keep:=λi h h' st kk=>by
  obtain⟨⟨old,he⟩,hl⟩:=st;exact⟨⟨old,kk e (by simp) _ he⟩,hl.at λo q=>kk it (by simp) o q⟩
 item:=by
  intro X hP hw hK hc i pins s U H E I hf st hg;subst hP hw hK;obtain⟨xs,x,hq,hx⟩:=hg;obtain⟨its,rv,p,hz⟩:=I.list hq;obtain⟨u,hu,ru⟩:=rv.get hx;obtain⟨⟨old,he⟩,hl⟩:=st;have f1:=hf e (by simp);have f2:=hf it (by simp);refine wpAny_pyNext_enum_item he hl p.isList (x:=u) (by simpa using hu) hne λh1 a1 a2 a3 a4 a5=>⟨_,rfl,?_⟩;refine wpAny_letOwnedTupleGo_enum a1 λh2 b1 b2=>?_
  have nTe:s.heap.objs.size≠e:=λz=>by
   have q:=Qq (show s.heap.get? e=some _ from he);rw[<-z]at q;exact Zb _ q
  have keep2:∀b o,b≠e->b≠it->s.heap.get? b=some o->h2.get? b=some o:=λb o n1 n2 q=>b2.extBut b o n1 (a5 b o n1 n2 q);have tup2:h2.get? s.heap.objs.size=some { cls:=.type "tuple", data:=.seq #[.int i s.toks,u] }:=b2.extBut _ _ nTe a3
  have I2:Inv X pins U (upd H s.heap.objs.size (.tup [.int (i:Nat),x])) { s with heap:=h2,toks:=s.toks+1 } :=
   I.turned2 keep2 f1 f2 (Qg _) ⟨(by show 2<=sizeLine;decide),[.int i s.toks,u],.cons ⟨_,rfl⟩ (.cons ru .nil),⟨_,tup2,rfl,_,rfl⟩⟩
  refine⟨.ref s.heap.objs.size,_,I2,rfl,⟨s.heap.objs.size,x,I.hok.fresh (Qg _),rfl,rfl,λys hy=>by rw[I.list_inj hy hq];exact hx⟩,⟨⟨u,?_⟩,(a2.extBut b2.extBut (Ne.symm hne))⟩,λb hb=>?_⟩
  ·have q:IsEnum h2 e it ((i:Int)+1) u:=b1;have c:(((i+1:Nat):Nat):Int)=(i:Int)+1:=by omega
   rw[c];exact q
  have z:b=e\/b=it:=by simpa using hb
  have nT:b≠s.heap.objs.size:=by
   rcases z with z|z
   ·rw[z];exact Ne.symm nTe
   rw[z];obtain⟨o,ho,_⟩:=hl;exact QB (Qq ho)
  rw[ah nT];exact(hf b hb).1
 done:=by
  intro X hP hw hK hc i pins s U H E I hf st hg;subst hP hw hK;obtain⟨xs,hq,hx⟩:=hg;obtain⟨its,rv,p,hz⟩:=I.list hq;obtain⟨⟨old,he⟩,hl⟩:=st;obtain⟨f0,f1,f2,f3,f4,f5⟩:=hf it (by simp);have hlen:=rv.length;exact wpAny_pyNext_enum_end (I.ok.hd hc) he hl p.isList (by simp;exact om4 hx hlen) λh' eb=>⟨rfl,I.turned (t':=s.toks) (λb o hb q=>eb b o hb q) f0 f1 f3 f4 f5⟩
 self:=λ_ _ _ _ _ st h=>by
  obtain⟨⟨old,he⟩,_⟩:=st;exact wpAny_pyIter_enum he h
section
variable {X:Cx} {elts:List Expr} {k:Nat} {tpos:Pos}
def AV (K:PySem.W.Frag) (ta:TA):TI:=λU H R=>ta U H λvs H1=>∃a,vs=[.ref a]/\(∃xs,SqL K H1 a xs)/\R (Ite K a) H1
theorem kY {a:Expr} {ta:TA} {p pos:Pos} (hg:Gl X "enumerate") (hm:X.mg "enumerate" = none) (ha:PA X [a] ta) (hs:starEach [a] X.env=[(false,eval a X.env)]:=by rfl):PI X (.Tuple elts k tpos) (.Call (.Name "enumerate" p) [a] [] pos) (AV X.K ta):=by
 intro pins s U H R I h;refine Call_ (cL I hg hm boot_enumerate (Xd (thn (ha pos pins s U H _ I h) λus s1 ⟨vs,H1,I1,r1,q1⟩=>?_) hs rfl));obtain⟨l,e,⟨xs,hq⟩,q⟩:=q1;subst e
 cases r1 with
 | cons r rr =>
 cases rr;cases r;obtain⟨its,rv,pl,hz⟩:=I1.list hq;refine call_enumerate_list pl.isList λh' b1 b2 b3 b4=>?_;refine wpAny_pyIter_enum b1 ?_;have I2:Inv X pins U H1 { s1 with heap:=h' }:=I1.kept (t':=s1.toks) b4;refine⟨s1.heap.objs.size+1,[s1.heap.objs.size+1,s1.heap.objs.size],_,_,H1,rfl,I2,rP l (s1.heap.objs.size+1) s1.heap.objs.size (by show @Ne Nat _ _;exact om5),⟨⟨_,b1⟩,b2⟩,λb hb=>?_,q⟩;have z:b=s1.heap.objs.size+1\/b=s1.heap.objs.size:=by simpa using hb
 have hle:s1.heap.objs.size<=b:=by
  rcases z with z|z
  ·rw[z];exact X3 _
  rw[z];exact Qg _
 exact I1.fpOk hle (I1.hok.fresh hle)
end
theorem i8 {K:PySem.W.Frag} {xs:List V} {g:TG} {tb:TS} {D:Ends} {U:St} (Pv:Nat->St->Hp->Prop) (h0:Pv 0 U H) (hl:∀i U H,i<=xs.length->Pv i U H->SqL K H a xs)
  (hs:∀i x U H T,xs[i]?=some x->Pv i U H->H T=none->g (.ref T) U (upd H T (.tup [.int (i:Nat),x])) λσ2 H2=>tb { D with nx:=Pv (i+1),ct:=Pv (i+1),bk:=D.nx } σ2 H2) (hd:∀U H,Pv xs.length U H->D.nx U H) :
  ∃W:Nat->Nat->St->Hp->Prop,(∃m,W 0 m U H)/\∀i m U H,W i m U H ->
   ((Ite K a).stop i H/\D.nx U H)\/((Ite K a).go i H/\∃N:St->Hp->Prop,(∀σ' H',N σ' H'->∃m',m'<m/\W (i+1) m' σ' H')/\∀x H',(Ite K a).yld i H x H'->g x U H' λσ2 H2=>tb { D with nx:=N,ct:=N,bk:=D.nx } σ2 H2):=by
 refine⟨λi m U H=>m=xs.length-i/\i<=xs.length/\Pv i U H,⟨xs.length,by simp,QR _,h0⟩,?_⟩;rintro i m U H ⟨rfl,hi,p⟩;have q:=hl i U H hi p;by_cases hlt:i<xs.length
 ·refine .inr ⟨⟨xs,xs[i],q,by simp[hlt]⟩,Pv (i+1),λσ' H' p'=>⟨xs.length-(i+1),by exact om6 hlt,rfl,hlt,p'⟩,λx H' y=>?_⟩;obtain⟨T,v,hT,ex,eH,y⟩:=y;subst ex eH;exact hs i v U H T (y xs q) p hT
 have e:i=xs.length:=by exact om0 hi hlt
 subst e;exact .inl ⟨⟨xs,q,Qg _⟩,hd U H p⟩
structure Fn (P:Program) (w:World) (K:PySem.W.Frag) (mg:B2) (base:Heap) (x:Str) (ps:List Str) (k:Nat) (sp:Sp):Prop where
 ex:∃f fd,FnOk P w K mg base CX0 k f fd ps sp/\mg x=some (.ref f)/\PySem.W.keepIn K (.ref f)=true/\jr K fd ps []
section
variable {X:Cx}
theorem An {x:Str} {ps:List Str} {k:Nat} {sp:Sp} {e:Expr} {es:List Expr} {t:TA} {p pos:Pos} (F:Fn X.prog X.w X.K X.mg X.base x ps k sp) (hr:Room k X.A) (hg:Gl X x) (ha:PA X (e::es) t)
  (hdb:(x==("__debug__" : Str))=false:=by decide) (he:starEach (e::es) X.env=(false,eval e X.env)::starEach es X.env:=by rfl) (hpl:(backTo pos (starEach es X.env)).any (·.1)=false:=by rfl) :
  PE X (.Call (.Name x p) (e::es) [] pos) (qu sp [] E0 t):=by
 obtain⟨f,fd,G,hm,hk,hb⟩:=F.ex;exact wx G hr hg hm hk hb .nil yf ha hdb he hpl
theorem aM {x:Str} {ps:List Str} {k j:Nat} {sp:Sp} {e:Expr} {es:List Expr} {t:TA} {p pos:Pos} (F:Fn X.prog X.w X.K X.mg X.base x ps k sp) (hr:Room j X.A) (ha:PA X (e::es) t) (hk:k<=j:=by first|decide|omega) (hg:Gl X x:=by rfl) (hdb:(x==("__debug__" : Str))=false:=by decide) (he:starEach (e::es) X.env=(false,eval e X.env)::starEach es X.env:=by rfl) (hpl:(backTo pos (starEach es X.env)).any (·.1)=false:=by rfl):PE X (.Call (.Name x p) (e::es) [] pos) (qu sp [] E0 t):=An F (hr.mono hk) hg ha hdb he hpl
end
section
variable {U:St} {H:Hp} {Q:VK} {K:PySem.W.Frag}
variable {v x y:V}
theorem aE {i:Nat} (h:U[i]?=some (some v)) (q:Q v H):fO i U H Q:=⟨v,h,q⟩
theorem i_c (q:Q v H):tC v U H Q:=q
variable {ta tb te to ti tl:TE}
theorem i_op {r:R2} (q:ta U H λx H1=>tb U H1 λy H2=>r x y H2 Q):tOp r ta tb U H Q:=q
variable {i j:Int}
theorem i_rI0 {g:Int->Int->V} (q:Q (g i j) H):rI0 g (.int i) (.int j) H Q:=⟨i,j,rfl,rfl,q⟩
theorem i_rI {C:Int->Int->Prop} {g:Int->Int->V} (c:C i j) (q:Q (g i j) H):rI C g (.int i) (.int j) H Q:=⟨i,j,rfl,rfl,c,q⟩
theorem i_eq (h:uk x y=true) (q:Q (.bl (decide (x=y))) H):rEq x y H Q:=⟨h,q⟩
theorem i_ne (h:uk x y=true) (q:Q (.bl (!decide (x=y))) H):rNe x y H Q:=⟨h,q⟩
theorem i_test {t:TE} {R:Bool->Hp->Prop} (q:t U H λx H'=>∃k,x=.bl k/\R k H'):tO t U H R:=q
theorem i_tB {t:TE} {R:Bool->Hp->Prop} (q:t U H λx H'=>∃k,x=.bl k/\R k H'):tB t U H R:=q
theorem i_and {t u:TT} {R:Bool->Hp->Prop} (q:t U H λc H1=>if c=true then u U H1 R else R false H1):Ad t u U H R:=q
theorem i_or {t u:TT} {R:Bool->Hp->Prop} (q:t U H λc H1=>if c=true then R true H1 else u U H1 R):tOr t u U H R:=q
theorem i_not {t:TT} {R:Bool->Hp->Prop} (q:t U H λc H1=>R (!c) H1):zX t U H R:=q
theorem i_andV (q:ta U H λx H1=>∃c,x=.bl c/\if c=true then tb U H1 Q else Q (.bl false) H1):xV ta tb U H Q:=q
theorem i_orV (q:ta U H λx H1=>∃c,x=.bl c/\if c=true then Q (.bl true) H1 else tb U H1 Q):A8 ta tb U H Q:=q
theorem i_notV (q:ta U H λx H1=>∃c,x=.bl c/\Q (.bl (!c)) H1):xR ta U H Q:=q
theorem i_ifE {t:TT} (q:t U H λc H1=>if c=true then ta U H1 Q else tb U H1 Q):tIf t ta tb U H Q:=q
theorem aZ {R:List V->Hp->Prop} (q:R [] H):lY U H R:=q
theorem aY {tr:TA} {R:List V->Hp->Prop} (q:te U H λx H1=>tr U H1 λxs H2=>R (x::xs) H2):fF te tr U H R:=q
theorem i_call {sp:Sp} {E:XK} {t:TA} (q:t U H λvs H1=>sp vs H1 Q E):qu sp [] E t U H Q:=by
 show t U H λvs H1=>sp (vs++[]) H1 Q E;simpa only[List.append_nil] using q
theorem i_cb {r:List V->Hp->VK->Prop} {t:TA} (q:t U H λvs H1=>r vs H1 Q):tCB r t U H Q:=q
theorem i_tup {t:TA} (q:t U H λxs H1=>xs.length<=sizeLine/\∀p,H1 p=none->Q (.ref p) (upd H1 p (.tup xs))):tN t U H Q:=q
theorem i_lst {t:TA} (q:t U H λxs H1=>xs.length<=sizeLine/\∀p,H1 p=none->Q (.ref p) (upd H1 p (.lst xs))):wg t U H Q:=q
theorem i_bm {T:String} {r:V->List V->Hp->VK->Prop} {t:TA} (q:to U H λx H1=>tyV K T x H1/\t U H1 λxs H2=>r x xs H2 Q):tBM K T r to t U H Q:=q
theorem i_sl {r:V->Option Int->Option Int->Hp->VK->Prop} {tl th:TO} (q:te U H λx H1=>tl U H1 λl H2=>th U H2 λu H3=>r x l u H3 Q):tSl r te tl th U H Q:=q
theorem i_nopart {R:Option Int->Hp->Prop} (q:R none H):qo U H R:=q
theorem i_part {t:TE} {R:Option Int->Hp->Prop} (q:t U H λx H1=>∃i,x=.int i/\R (some i) H1):xQ t U H R:=q
variable {xs:List V}
theorem i_ixL {p:Addr} {v:V} (h:SqL K H p xs) (e:atI xs i=some v) (q:Q v H):ww K (.ref p) (.int i) H Q:=⟨p,xs,i,v,rfl,rfl,h,e,q⟩
theorem i_ixT {p:Addr} (h:H p=some (.tup xs)) (e:atI xs i=some v) (q:Q v H):uu K (.ref p) (.int i) H Q:=⟨p,xs,i,v,rfl,rfl,SqT.of h,e,q⟩
theorem ff {z:Str} {c:Nat} (hz:z.length<=sizeLine) (e:atI z.cps.toList i=some c) (q:Q (.str ⟨#[c]⟩) H):Am (.str z) (.int i) H Q:=⟨z,i,c,rfl,rfl,hz,e,q⟩
variable {D:Ends}
theorem s_seq {t u:TS} (q:t { D with nx:=u D } U H):wf t u D U H:=q
theorem s_asg {g:TG} (q:te U H λx H1=>g x U H1 D.nx):tT te g D U H:=q
theorem az {i:Nat} {R:St->Hp->Prop} (q:R (U.set i (some v)) H):d5 i v U H R:=q
theorem s_drop (q:te U H λ_ H1=>D.nx U H1):xT te D U H:=q
theorem s_ret {te:TE} (q:te U H D.rt):zW te D U H:=q
theorem s_next (q:D.nx U H):xS D U H:=q
theorem s_if {c:TT} {t u:TS} (q:c U H λb H1=>if b=true then t D U H1 else u D U H1):zZ c t u D U H:=q
theorem s_sub {t:xK} {R:St->Hp->Prop} (q:to U H λo H1=>ti U H1 λi H2=>t o i v H2 λH3=>R U H3):AX to ti t v U H R:=q
theorem s_setL {p:Addr} {k:Int} {j:Nat} {R:Hp->Prop} (h:H p=some (.lst xs)) (e:ixN xs.length k=some j) (q:R (upd H p (.lst (xs.set j v)))):yd (.ref p) (.int k) v H R:=⟨p,xs,k,j,rfl,rfl,h,e,q⟩
theorem s_for {wi:TI} {g:TG} {tb:TS} (q:wi U H λJ H1=>∃W:Nat->Nat->St->Hp->Prop,(∃m,W 0 m U H1)/\∀i m U H,W i m U H ->
 (J.stop i H/\D.nx U H)\/(J.go i H/\∃N:St->Hp->Prop,(∀σ' H',N σ' H'->∃m',m'<m/\W (i+1) m' σ' H')/\∀x H',J.yld i H x H'->g x U H' λσ2 H2=>tb { D with nx:=N,ct:=N,bk:=D.nx } σ2 H2)):Ab wi g tb D U H:=q
theorem s_rng1 {ta:TA} {R:It->Hp->Prop} (q:ta U H λvs H1=>∃j:Int,vs=[.int j]/\-(2 ^ 62)<=j/\j<2 ^ 62/\R (Itr 0 j.toNat) H1):yp ta U H R:=q
theorem s_list {R:It->Hp->Prop} (q:tl U H λx H1=>∃a,x=.ref a/\(∃xs,SqL K H1 a xs)/\R (Itl K a) H1):nK K tl U H R:=q
theorem s_str {R:It->Hp->Prop} (q:tl U H λv H1=>∃z:Str,v=.str z/\R (Itf z.cps.size (f9 z)) H1):AU tl U H R:=q
theorem bC {wi:TI} {g:TG} {tt:TT} {f:St->St} (q:wi U H λJ H1=>∀D,H1 D=none->∃W:Nat->Nat->Hp->List V->Prop,(∃m,W 0 m (upd H1 D (.lst [])) []) /\
 ∀i m H ys,W i m H ys->H D=some (.lst ys)/\((J.stop i H/\Q (.ref D) H)\/(J.go i H/\∀x H',J.yld i H x H'->g x (f U) H' λσ2 H2=>wk (f U) σ2/\tt σ2 H2 λb H3 =>
  if b=true then te σ2 H3 λv H4=>H4 D=some (.lst ys)/\ys.length<sizeLine/\∃m',m'<m/\W (i+1) m' (upd H4 D (.lst (ys++[v]))) (ys++[v])
  else ∃m',m'<m/\W (i+1) m' H3 ys))):iy wi g tt te f U H Q:=q
end
def c8 (Pv:Nat->Hp->List V->Prop) (n:Nat) (D:Addr) (i:Nat) (ys:List V):VK:=λv H4=>H4 D=some (.lst ys)/\ys.length<sizeLine/\∃m',m'<n-i/\(m'=n-(i+1)/\i+1<=n/\Pv (i+1) (upd H4 D (.lst (ys++[v]))) (ys++[v]))
theorem c8.mk {Pv:Nat->Hp->List V->Prop} {D:Addr} {ys:List V} {v:V} (hd:H4 D=some (.lst ys)) (hi:i<n) (hl:ys.length<sizeLine) (p:Pv (i+1) (upd H4 D (.lst (ys++[v]))) (ys++[v])):c8 Pv n D i ys v H4 :=
 ⟨hd,hl,n-(i+1),by exact om6 hi,rfl,hi,p⟩
section
variable {K:PySem.W.Frag} {g:TG} {te:TE} {σ0:St} {QD:Hp->Prop} {H1:Hp} {D:Addr}
theorem jf {lo:Int} {n:Nat} (Pv:Nat->Hp->List V->Prop) (h0:Pv 0 (upd H1 D (.lst [])) []) (hD:∀i H ys,Pv i H ys->H D=some (.lst ys))
  (hs:∀i H ys,i<n->Pv i H ys->g (.int (lo+i)) σ0 H λσ2 H2=>wk σ0 σ2/\f6 σ2 H2 λb H3=>if b=true then te σ2 H3 (c8 Pv n D i ys) else ∃m',m'<n-i/\(m'=n-(i+1)/\i+1<=n/\Pv (i+1) H3 ys)) (hd:∀H ys,Pv n H ys->QD H) :
  ∃W:Nat->Nat->Hp->List V->Prop,(∃m,W 0 m (upd H1 D (.lst [])) [])/\∀i m H ys,W i m H ys->H D=some (.lst ys)/\(((Itr lo n).stop i H/\QD H)\/((Itr lo n).go i H/\∀x H',(Itr lo n).yld i H x H'->g x σ0 H' λσ2 H2=>wk σ0 σ2/\f6 σ2 H2 λb H3 =>
   if b=true then te σ2 H3 λv H4=>H4 D=some (.lst ys)/\ys.length<sizeLine/\∃m',m'<m/\W (i+1) m' (upd H4 D (.lst (ys++[v]))) (ys++[v]) else ∃m',m'<m/\W (i+1) m' H3 ys)):=by
 refine⟨λi m H ys=>m=n-i/\i<=n/\Pv i H ys,⟨n,by simp,QR _,h0⟩,?_⟩;rintro i m H ys ⟨rfl,hi,p⟩;refine⟨hD i H ys p,?_⟩;by_cases hlt:i<n
 ·refine .inr ⟨hlt,λx H' y=>?_⟩;obtain⟨e,y⟩:=y;subst e y;exact hs i _ ys hlt p
 have e:i=n:=by exact om0 hi hlt
 subst e;exact .inl ⟨Qg _,hd H ys p⟩
theorem d8 {a:Addr} {xs:List V} (Pv:Nat->Hp->List V->Prop) (h0:Pv 0 (upd H1 D (.lst [])) []) (hD:∀i H ys,Pv i H ys->H D=some (.lst ys)/\SqL K H a xs)
  (hs:∀i x H ys,xs[i]?=some x->Pv i H ys->g x σ0 H λσ2 H2=>wk σ0 σ2/\f6 σ2 H2 λb H3=>if b=true then te σ2 H3 (c8 Pv xs.length D i ys) else ∃m',m'<xs.length-i/\(m'=xs.length-(i+1)/\i+1<=xs.length/\Pv (i+1) H3 ys)) (hd:∀H ys,Pv xs.length H ys->QD H) :
  ∃W:Nat->Nat->Hp->List V->Prop,(∃m,W 0 m (upd H1 D (.lst [])) [])/\∀i m H ys,W i m H ys->H D=some (.lst ys)/\(((Itl K a).stop i H/\QD H)\/((Itl K a).go i H/\∀x H',(Itl K a).yld i H x H'->g x σ0 H' λσ2 H2=>wk σ0 σ2/\f6 σ2 H2 λb H3 =>
   if b=true then te σ2 H3 λv H4=>H4 D=some (.lst ys)/\ys.length<sizeLine/\∃m',m'<m/\W (i+1) m' (upd H4 D (.lst (ys++[v]))) (ys++[v]) else ∃m',m'<m/\W (i+1) m' H3 ys)):=by
 refine⟨λi m H ys=>m=xs.length-i/\i<=xs.length/\Pv i H ys,⟨xs.length,by simp,QR _,h0⟩,?_⟩;rintro i m H ys ⟨rfl,hi,p⟩;obtain⟨d1,d2⟩:=hD i H ys p;refine⟨d1,?_⟩;by_cases hlt:i<xs.length
 ·refine .inr ⟨⟨xs,xs[i],d2,by simp[hlt]⟩,λx H' y=>?_⟩;obtain⟨e,y⟩:=y;subst e;exact hs i x _ ys (y xs d2) p
 have e:i=xs.length:=by exact om0 hi hlt
 subst e;exact .inl ⟨⟨xs,d2,Qg _⟩,hd H ys p⟩
theorem nZ {n:Nat} {f:Nat->V} (Pv:Nat->Hp->List V->Prop) (h0:Pv 0 (upd H1 D (.lst [])) []) (hD:∀i H ys,Pv i H ys->H D=some (.lst ys))
  (hs:∀i H ys,i<n->Pv i H ys->g (f i) σ0 H λσ2 H2=>wk σ0 σ2/\f6 σ2 H2 λb H3=>if b=true then te σ2 H3 (c8 Pv n D i ys) else ∃m',m'<n-i/\(m'=n-(i+1)/\i+1<=n/\Pv (i+1) H3 ys)) (hd:∀H ys,Pv n H ys->QD H) :
  ∃W:Nat->Nat->Hp->List V->Prop,(∃m,W 0 m (upd H1 D (.lst [])) [])/\∀i m H ys,W i m H ys->H D=some (.lst ys)/\(((Itf n f).stop i H/\QD H)\/((Itf n f).go i H/\∀x H',(Itf n f).yld i H x H'->g x σ0 H' λσ2 H2=>wk σ0 σ2/\f6 σ2 H2 λb H3 =>
   if b=true then te σ2 H3 λv H4=>H4 D=some (.lst ys)/\ys.length<sizeLine/\∃m',m'<m/\W (i+1) m' (upd H4 D (.lst (ys++[v]))) (ys++[v]) else ∃m',m'<m/\W (i+1) m' H3 ys)):=by
 refine⟨λi m H ys=>m=n-i/\i<=n/\Pv i H ys,⟨n,by simp,QR _,h0⟩,?_⟩;rintro i m H ys ⟨rfl,hi,p⟩;refine⟨hD i H ys p,?_⟩;by_cases hlt:i<n
 ·refine .inr ⟨hlt,λx H' y=>?_⟩;obtain⟨e,y⟩:=y;subst e y;exact hs i _ ys hlt p
 have e:i=n:=by exact om0 hi hlt
 subst e;exact .inl ⟨rfl,hd H ys p⟩
end
section
variable {H:Hp} {Q:VK} {K:PySem.W.Frag}
theorem i7 {z:Str} {lo hi:Option Int} (h:z.length<=sizeLine) (q:Q (.str (Txt.slice z lo hi)) H):Ai (.str z) lo hi H Q:=⟨z,rfl,h,q⟩
variable {xs zs:List V}
theorem yn {a:Addr} {lo hi:Option Int} (h:SqL K H a xs) (q:∀p,H p=none->Q (.ref p) (upd H p (.lst (je xs lo hi)))):Aj K (.ref a) lo hi H Q:=⟨a,xs,rfl,h,q⟩
theorem Be {x:V} {p:Addr} (h:SqL K H p xs) (fx:bY x=true) (fs:xs.all bY=true) (q:Q (.bl (inV x xs)) H):rIn K false x (.ref p) H Q:=⟨p,xs,rfl,.inl h,fx,fs,q⟩
theorem gv {l b:Addr} (h1:H l=some (.lst xs)) (h2:H b=some (.lst zs)) (hz:xs.length+zs.length<=sizeLine) (q:∀p,H p=none->Q (.ref p) (upd H p (.lst (xs++zs)))):yU (.ref l) (.ref b) H Q:=⟨l,b,xs,zs,rfl,rfl,h1,h2,hz,q⟩
theorem eQ {l:Addr} {xs:List V} {y:V} (h:H l=some (.lst xs)) (hz:xs.length<sizeLine) (q:Q .non (upd H l (.lst (xs++[y])))):qQ (.ref l) [y] H Q:=⟨l,xs,y,rfl,rfl,h,hz,q⟩
theorem i_tyL {p:Addr} (h:H p=some (.lst xs)):tyV K "list" (.ref p) H:=.inl ⟨rfl,xs,SqL.of h⟩
end
theorem aw {p:Addr} {o:HO} (hp:H p=none):aj H (upd H p o):=λb u e=>by rw[ah (ao e hp)];exact e
end L2
namespace L2
open PySem
section
variable {U:St} {H:Hp} {D:Ends}
theorem s_seqT {t u:TS} (q:let D':Ends:={ D with nx:=u D };t D' U H):wf t u D U H:=q
theorem s_nameT {i:Nat} {v:V} {R:St->Hp->Prop} (q:let σ':St:=U.set i (some v);R σ' H):d5 i v U H R:=q
end
variable {H:Hp}
theorem i_yes {U:St} {R:Bool->Hp->Prop} (q:R true H):f6 U H R:=q
theorem i_dget {td ty:TE} {U:St} {Q:VK} (q:td U H λx H1=>ty U H1 λy H2=>∃a v,x=.ref a/\cF H2 a y (some v)/\Q v H2):xU td ty U H Q:=q
theorem i_un {r:V->Hp->VK->Prop} {ta:TE} {U:St} {Q:VK} (q:ta U H λx H1=>r x H1 Q):tUn r ta U H Q:=q
theorem i_rU {g:Int->V} {i:Int} {Q:VK} (q:Q (g i) H):rU g (.int i) H Q:=⟨i,rfl,q⟩
end L2
namespace L2
open PySem PySem.Spec PyProof.Rows
def bQ (H:Hp) (c:Addr):Hp:=λb=>if b=c then none else H b
variable {c b f cell fa a T:Addr} {H H':Hp}
theorem cO:bQ H c c=none:=Qs rfl
theorem bx (h:b≠c):bQ H c b=H b:=Qo h
theorem sX {o:HO} (h:bQ H c b=some o):b≠c/\H b=some o:=by
 by_cases e:b=c
 ·subst e;rw[cO]at h;cases h
 rw[bx e]at h;exact⟨e,h⟩
def dI (o:Obj):HO:=.frz o (.ext λ_=>True)
section
variable {P:Program} {w:World} {H H1:Hp} {h h1:Heap} {c:Addr} {o:Obj} {fs ex:B3}
theorem xG {H:Hp} (e:h.get? c=some o):be P w H h c (dI o):=⟨e,trivial,⟨o,e⟩,λ_ _ _ _=>trivial⟩
theorem HOk.drop (x:HOk P w H h) (hc:H c=some (dI o)):HOk P w (bQ H c) h:=λb u e=>by
 obtain⟨_,e⟩:=sX e;refine(x b u e).stay (λ_ _ _ q=>q) (λd q=>?_) λd xs q=>?_
 ·rw[bx];exact q;intro z;subst z;rw[hc]at q;cases q
 rw[bx];exact q;intro z;subst z;rw[hc]at q;cases q
theorem HOk.take (x:HOk P w H h) (hc:H c=none) (e:h.get? c=some o):HOk P w (upd H c (dI o)) h:=λb u q=>by
 by_cases hb:b=c
 ·subst hb;rw[af]at q;cases q;exact xG e
 rw[ah hb]at q;refine(x b u q).stay (λ_ _ _ r=>r) (λd r=>?_) λd xs r=>?_
 ·rw[ah (ao r hc)];exact r
 rw[ah (ao r hc)];exact r
theorem Un.back (u:Un fs ex (bQ H c) H1 h h1) (hc:H c=some (dI o)) (e:h.get? c=some o) (nf:c∉fs) (nx:c∉ex):Un fs ex H (upd H1 c (dI o)) h h1/\H1 c=none/\h1.get? c=some o:=by
 have h1c:=u.free c o e cO nx;have e1:=u.keep c o e cO nf nx;have ne:∀{b v},H b=some v->v≠dI o->b≠c:=λq n z=>by subst z;rw[hc]at q;cases q;exact n rfl
 have nn:∀{b},H b=none->b≠c:=λq z=>by subst z;rw[hc]at q;cases q
 refine⟨⟨λb ob q n hb hx=>?_,λb ob q n hb hx=>?_,λb ob q n hx=>?_,λb ob q hx=>u.there b ob q hx,λb xs q=>?_,λb ob v q=>?_,λb ps q=>?_⟩,h1c,e1⟩
 ·exact u.keep b ob q (by rw[bx (nn n)];exact n) hb hx
 ·exact u.slot b ob q (by rw[bx (nn n)];exact n) hb hx
 ·rw[ah (nn n)];exact u.free b ob q (by rw[bx (nn n)];exact n) hx
 ·have nb:=ne q (λz=>by cases z);rw[ah nb];exact u.tups b xs (by rw[bx nb];exact q)
 ·by_cases nb:b=c
  ·subst nb;rw[hc]at q;cases q;exact af
  rw[ah nb];exact u.frzs b ob v (by rw[bx nb];exact q)
 have nb:=ne q (λz=>by cases z);rw[ah nb];exact u.tbls b ps (by rw[bx nb];exact q)
theorem Un.out (u:Un fs ex (upd H c (dI o)) H1 h h1) (k1:HOk P w H1 h1) (hc:H c=none) (e:h.get? c=some o) (nf:c∉fs):Un fs ex H (bQ H1 c) h h1/\HOk P w (bQ H1 c) h1/\H1 c=some (dI o):=by
 have h1c:=u.frzs c o _ af;have e1:=(k1 c _ h1c).1;refine⟨⟨λb ob q n hb hx=>?_,λb ob q n hb hx=>?_,λb ob q n hx=>?_,λb ob q hx=>u.there b ob q hx,λb xs q=>?_,λb ob v q=>?_,λb ps q=>?_⟩,k1.drop h1c,h1c⟩
 ·by_cases nb:b=c
  ·subst nb;rw[e]at q;cases q;exact e1
  exact u.keep b ob q (by rw[ah nb];exact n) hb hx
 ·have nb:b≠c:=λz=>by subst z;exact nf hb
  exact u.slot b ob q (by rw[ah nb];exact n) hb hx
 ·by_cases nb:b=c
  ·subst nb;exact cO
  rw[bx nb];exact u.free b ob q (by rw[ah nb];exact n) hx
 ·have nb:=ao q hc;rw[bx nb];exact u.tups b xs (by rw[ah nb];exact q)
 ·have nb:=ao q hc;rw[bx nb];exact u.frzs b ob v (by rw[ah nb];exact q)
 have nb:=ao q hc;rw[bx nb];exact u.tbls b ps (by rw[ah nb];exact q)
end
structure Lm where
 qual:Str
 params:Arguments
 body:Expr
 scope:Scope
 pos:Pos
def hU (c:Addr) (qual:Str):HO:=.ext λh=>h.CodeRec (.ref c) qual
def gW (f:Addr) (l:Lm) (cl:List (Str × Addr)) (c:Addr):HO:=.ext λh=>∃pm ctv,h.get? f=some (PySem.W.kla_obj "<lambda>" l.qual l.params l.body l.scope cl pm c ctv)
variable {qual y z x n:Str} {h h1:Heap}
theorem v3 {P:Program} {w:World} (r:h.CodeRec (.ref c) qual):be P w H h c (hU c qual):=by
 obtain⟨d,oc,vs,t,e1,e2,r2⟩:=id r;cases e1;refine⟨r,⟨oc,e2⟩,λh1 h2 p k=>?_⟩;obtain⟨d,oc,vs,t,e1,e2,r2⟩:=p;cases e1;exact⟨_,oc,vs,t,rfl,k _ e2,r2⟩
variable {pm ctv u uy:Value} {cl:List (Str × Addr)}
theorem re {P:Program} {w:World} {l:Lm} (e:h.get? f=some (PySem.W.kla_obj "<lambda>" l.qual l.params l.body l.scope cl pm c ctv)):be P w H h f (gW f l cl c) :=
 ⟨⟨pm,ctv,e⟩,⟨_,e⟩,λ_ _ ⟨pm,ctv,q⟩ k=>⟨pm,ctv,k _ q⟩⟩
def d7 (l:Lm) (c:Addr):Array Value:=#[rawInt l.pos.line,rawInt l.pos.col,.ref c]
def cX (T:Addr) (l:Lm) (H:Hp):Prop:=H T=some (.tbl #[])\/∃c,H T=some (.tbl (d7 l c))/\H c=some (hU c l.qual)
structure Made (T:Addr) (l:Lm) (cl:List (Str × Addr)) (H:Hp) (f c:Addr) (H':Hp):Prop where
 new:H f=none
 fn:H' f=some (gW f l cl c)
 code:H' c=some (hU c l.qual)
 tab:H' T=some (.tbl (d7 l c))
 old:∀b o,H b=some o->b≠T->H' b=some o
def fM (base:Heap) (mg:B2):Prop:=∃bm ob,mg "__builtins__" = some (.ref bm)/\bm≠builtinsNs/\bm≠mainGlobals/\base.get? bm=some ob/\ob.cls=.type "module" /\ ob.dict=some builtinsNs/\ob.data=.plain
def zY (T:Addr) (l:Lm) (cl:List (Str × Addr)):TE:=λ_ H Q=>cX T l H/\∀f c H',Made T l cl H f c H'->Q (.ref f) H'
section
variable {X:Cx}
theorem yY {params:Arguments} {body:Expr} {scope:Scope} {pos:Pos} {cc T:Addr} {cl:List (Str × Addr)} (hcode:X.env.code=.ref cc) (C:PySem.W.CodeHd X.base cc T) (B:fM X.base X.mg) (hcl:closureFor scope X.env=pure cl) (hdef:defaultsOf params X.env=([],[]):=by rfl) :
  PE X (.Lambda params body scope pos) (zY T ⟨X.env.qual ++ "<lambda>", params,body,scope,pos⟩ cl):=by
 intro pins s U H Q I h;obtain⟨tb,q⟩:=h;refine PySem.W.kla_eval hdef ?_;have hg:s.heap.Ns mainGlobals X.mg:=I.mod.glob.keeps I.bk;have hT:∃ps,H T=some (.tbl ps):=by rcases tb with e|⟨c,e,_⟩ <;> exact⟨_,e⟩
 obtain⟨ps0,hps0⟩:=hT
 have bne:∀{b ob},X.base.get? b=some ob->b≠T:=λe z=>by
  subst z;rw[(I.bs _ _ e).2]at hps0;cases hps0
 have hgP:mainGlobals≠T:=by
  obtain⟨o,es,ep,e,_⟩:=I.mod.glob;exact bne e
 obtain⟨bm,ob,b1,b2,b3,b4,b5,b6,b7⟩:=B;have hB:s.heap.BuiltinsAt X.mg T:=⟨bm,ob,b1,b2,b3,bne b4,I.bk _ _ b4,b5,b6,b7⟩;have CH:=C.keeps I.bk;rcases tb with e|⟨c,e,hc⟩
 ·have hP:s.heap.get? T=some (PySem.W.tabObj #[]):=I.hok T _ e;refine PySem.W.kla_makeFunction (mg:=X.mg) hcl I.ok.glob hg hcode CH hP trivial rfl hgP hB λc' ctv h' tk hx hge hlt hrec htb=>?_;have hsz:s.heap.objs.size<=h'.objs.size:=X7 (XY hge hlt);have nT:T<s.heap.objs.size:=Qq hP;let f:Addr:=h'.objs.size;have Hf:H f=none:=I.hok.fresh hsz;have Hc:H c'=none:=I.hok.fresh hge;have nfc:c'≠f:=QB hlt;have nTf:T≠f:=QB (QN nT hsz);have nTc:T≠c':=QB (QN nT hge);let H':Hp:=upd (upd (upd H T (.tbl (d7 ⟨X.env.qual ++ "<lambda>", params,body,scope,pos⟩ c'))) c' (hU c' (X.env.qual ++ "<lambda>"))) f (gW f ⟨X.env.qual ++ "<lambda>", params,body,scope,pos⟩ cl c')
  have hH:∀b o,H b=some o->b≠T->H' b=some o:=λb o e n=>by
   show upd (upd (upd H T _) c' _) f _ b=_;rw[ah (ao e Hf),ah (ao e Hc),ah n];exact e
  have hHT:H' T=some (.tbl (d7 ⟨X.env.qual ++ "<lambda>", params,body,scope,pos⟩ c')):=by
   show upd (upd (upd H T _) c' _) f _ T=_;rw[ah nTf,ah nTc,af]
  have hHc:H' c'=some (hU c' (X.env.qual ++ "<lambda>")):=by
   show upd (upd (upd H T _) c' _) f _ c'=_;rw[ah nfc,af]
  have kx:∀b o,b≠T->s.heap.get? b=some o->(h'.push (PySem.W.kla_obj "<lambda>" (X.env.qual ++ "<lambda>") params body scope cl ((X.mg "__name__").getD .none) c' ctv)).get? b=some o:=λb o n e=>Qc _ (hx b o n e);have htb':h'.get? T=some (PySem.W.tabObj (d7 ⟨X.env.qual ++ "<lambda>", params,body,scope,pos⟩ c')):=by simpa[d7] using htb
  have ntb:∀{b u},H b=some u->(∀ps,u≠.tbl ps)->b≠T:=λr n z=>by
   subst z;rw[e]at r;cases r;exact n _ rfl
  have un:Un X.fs [] H H' s.heap (h'.push (PySem.W.kla_obj "<lambda>" (X.env.qual ++ "<lambda>") params body scope cl ((X.mg "__name__").getD .none) c' ctv)):=by
   have nn:∀{b},H b=none->b≠T:=λn z=>by subst z;rw[e]at n;cases n
   refine⟨λb o r n _ _=>kx b o (nn n) r,λb o r n _ _=>⟨o.slots,kx b o (nn n) r⟩,λb o r n _=>?_,λb o r _=>?_,λb xs r=>hH b _ r (ntb r λ_ z=>nomatch z),λb o v r=>hH b _ r (ntb r λ_ z=>nomatch z),λb ps r=>?_⟩
   ·have lb:b<s.heap.objs.size:=Qq r;show upd (upd (upd H T _) c' _) f _ b=none;rw[ah (QB (QN lb hsz)),ah (QB (QN lb hge)),ah (nn n)];exact n
   ·by_cases z:b=T
    ·subst z;exact⟨_,Qc _ htb'⟩
    exact⟨o,kx b o z r⟩
   by_cases z:b=T
   ·subst z;rw[e]at r;cases r;exact⟨d7 ⟨X.env.qual ++ "<lambda>", params,body,scope,pos⟩ c',by rw[hHT,Array.empty_append]⟩
   exact⟨#[],by rw[hH b _ r z];simp⟩
  have hok:HOk X.prog X.w H' (h'.push (PySem.W.kla_obj "<lambda>" (X.env.qual ++ "<lambda>") params body scope cl ((X.mg "__name__").getD .none) c' ctv)):=λb u qb=>by
   have qb:upd (upd (upd H T (.tbl (d7 ⟨X.env.qual ++ "<lambda>", params,body,scope,pos⟩ c'))) c' (hU c' (X.env.qual ++ "<lambda>"))) f (gW f ⟨X.env.qual ++ "<lambda>", params,body,scope,pos⟩ cl c') b=some u:=qb;by_cases z1:b=f
   ·subst z1;rw[af]at qb;cases qb;exact re (Qt _ rfl)
   rw[ah z1]at qb;by_cases z2:b=c'
   ·subst z2;rw[af]at qb;cases qb;obtain⟨d,oc,vs,t,e1,e2,r2⟩:=hrec;exact v3 ⟨d,oc,vs,t,e1,Qc _ e2,r2⟩
   rw[ah z2]at qb;by_cases z3:b=T
   ·subst z3;rw[af]at qb;cases qb;exact Qc _ htb'
   rw[ah z3]at qb;refine(I.hok b u qb).stay (λd v hd r=>kx d v ?_ r) (λd r=>hH d _ r (ntb r λ_ z=>nomatch z)) λd xs r=>hH d _ r (ntb r λ_ z=>nomatch z);rcases hd with z|z
   ·rw[z];exact z3
   intro y;subst y;rw[e]at z;cases z
  refine⟨.ref f,H',I.un (t':=tk) un hok,rfl,q f c' H' ⟨Hf,af,hHc,hHT,hH⟩⟩
 have hP:s.heap.get? T=some (PySem.W.tabObj (d7 ⟨X.env.qual ++ "<lambda>", params,body,scope,pos⟩ c)):=I.hok T _ e;refine PySem.W.kla_makeFunctionHit (mg:=X.mg) (cv:=.ref c) hcl I.ok.glob hg hcode CH hP trivial (by simp[d7,codeAmong,rawInt]) hB λctv h' tk hk hsz=>?_;let f:Addr:=h'.objs.size;have Hf:H f=none:=I.hok.fresh hsz;refine⟨.ref f,_,I.laid (t':=tk) (a:=f) (o:=gW f ⟨X.env.qual ++ "<lambda>", params,body,scope,pos⟩ cl c) (λb o e=>Qc _ (hk b o e)) hsz (re (Qt _ rfl)),rfl,q f c _ ⟨Hf,af,?_,?_,λb o e _=>?_⟩⟩
 ·rw[ah (ao hc Hf)];exact hc
 ·rw[ah (ao e Hf)];exact e
 rw[ah (ao e Hf)];exact e
end
structure LmScope (x y:Str) (sc:Scope):Prop where
 kind:sc.kind=.function
 co:sc.isCoroutine=false
 gen:sc.isGenerator=false
 par:sc.names.lookup x=some .local
 fre:sc.names.lookup y=some .free
 ne:x≠y
 nocell:∀z∈sc.names,z.2≠.cell
 only:∀z,sc.names.lookup z=some .free->z=y
noncomputable def rG (P:Program) (w:World) (K:PySem.W.Frag) (mg:B2) (base:Heap) (x y:Str) (l:Lm) (f c cell:Addr) (A:Around) (outer:List Env) (s:Shared) (H:Hp) (E:XK):Cx where
 prog:=P
 w:=w
 K:=K
 mg:=mg
 base:=base
 A:=A.deeper (PySem.W.envX l.qual l.scope s.heap.objs.size f (.ref c) [(y,cell)])
 N:=[x,y]
 s₀:=s
 H₀:=H
 env:=PySem.W.envX l.qual l.scope s.heap.objs.size f (.ref c) [(y,cell)]
 outer:=outer
 stack:=PySem.W.envX l.qual l.scope s.heap.objs.size f (.ref c) [(y,cell)]::outer
 ex:=[]
 calm:=true
 fn:=λ_=>false
 pn:=[]
 xe:=λe s'=>wpAny (model P w) (A.deeper (PySem.W.envX l.qual l.scope s.heap.objs.size f (.ref c) [(y,cell)])) (leaving (PySem.W.envX l.qual l.scope s.heap.objs.size f (.ref c) [(y,cell)]) e) (λ_ s''=>CX0 outer H s E e s'') (λe' s''=>CX0 outer H s E e' s'') s'
theorem lk1 (h:[(y,cell)].lookup z=some c):z=y/\c=cell:=by
 rw[Q5]at h;by_cases e:(z==y)=true
 ·rw[e]at h;cases h;exact⟨eq_of_beq e,rfl⟩
 have e:(z==y)=false:=by simpa using e
 rw[e]at h;cases h
theorem nu:[(y,cell)].lookup y=some cell:=by
 rw[Q5,beq_self_eq_true]
variable {s s₁:Shared}
theorem xj {P:Program} {w:World} {K:PySem.W.Frag} {mg:B2} {base:Heap} {l:Lm} {f c:Addr} {A:Around} {outer:List Env} {E:XK} {vx vy:V} {tk:Nat}
  (S:LmScope x y l.scope) (hd:A.handled=none) (e0:Env0 P w K mg base A outer s H) (rx:aL vx u) (ry:aL vy uy) (hc:s.heap.IsCell cell (some uy)) (hH:H cell=none)
  (hns:h1.Ns s.heap.objs.size (λz=>[(x,u)].reverse.lookup z)) (hk:∀b o,s.heap.get? b=some o->h1.get? b=some o) :
  Inv (rG P w K mg base x y l f c cell A outer s H E) [] [some vx,some vy] H { s with heap:=h1,toks:=tk }:=by
 have noA:∀b:Addr,b∉(rG P w K mg base x y l f c cell A outer s H E).ex:=λb z=>absurd (show b∈([]:B3) from z) (by simp);have hc1:h1.IsCell cell (some uy):=by obtain⟨o,e1,e2⟩:=hc;exact⟨o,hk _ _ e1,e2⟩
 refine⟨⟨e0.mod,S.kind,rfl,rfl,Qg _,λy' z c h1 h2=>(lk1 h1).1.trans (lk1 h2).1.symm,λz hz=>?_,(λy c h _=>nomatch h),λ_=>hd,Around.frames_deeper e0.frames,.inr ⟨rfl,rfl⟩,λb z=>absurd z (noA b),e0.bs,e0.bsz,λb _ _=>noA b,λb z=>absurd z (noA b),e0.funs,e0.frf⟩,
  rfl,e0.bare,Un.kept hk,⟨_,hns,λi z v h1 h2 h3=>?_⟩,λz c h=>?_,e0.hok.fresh (Qg _),λz c h=>?_,λp hp=>absurd (show p∈([]:B1) from hp) (by simp),e0.hok.kept hk,rfl⟩
 ·have hz:l.scope.names.lookup z=some .cell\/l.scope.names.lookup z=some .free:=hz;rcases hz with hz|hz
  ·exact absurd rfl (S.nocell _ (PySem.mem_of_lookup hz))
  rw[S.only z hz];exact⟨cell,nu⟩
 ·match i with
  | 0 =>
   cases h1;cases h2;refine⟨u,rx,.inl ⟨S.par,?_⟩⟩;show [(x,u)].reverse.lookup x=some u;simp[List.lookup]
  | 1 =>
   cases h1;cases h2;exact⟨uy,ry,.inr ⟨.inr S.fre,cell,nu,hc1⟩⟩
  | i+2 =>
   exact absurd h1 (by show ([x,y]:List Str)[i+2]?≠some z;simp)
 ·rw[(lk1 h).2];exact⟨_,hc1⟩
 rw[(lk1 h).2];exact hH
theorem w_ {P:Program} {w:World} {K:PySem.W.Frag} {mg:B2} {base:Heap} {l:Lm} {A:Around} {outer:List Env} {Q:VK} {E:XK} {vx vy:V} {k:Nat} {t:TE} {args:Args}
  (S:LmScope x y l.scope) (hr:Room (k+1) A) (e0:Env0 P w K mg base A outer s H) (rx:aL vx u) (ry:aL vy uy) (hc:s.heap.IsCell cell (some uy)) (hH:H cell=none)
  (hf:s.heap.get? f=some (PySem.W.kla_obj "<lambda>" l.qual l.params l.body l.scope [(y,cell)] pm c ctv)) (hcd:s.heap.CodeRec (.ref c) l.qual) (hb:bindArgs (PySem.W.kla_fn "<lambda>" l.qual l.params l.body l.scope [(y,cell)] pm (.ref c) ctv) args=pure [(x,u)])
  (body:Room k (A.deeper (PySem.W.envX l.qual l.scope s.heap.objs.size f (.ref c) [(y,cell)]))->PE (rG P w K mg base x y l f c cell A outer s H E) l.body t) (q:t [some vx,some vy] H Q):codeAny (model P w) A (.call (.ref f) args) (CR CX0 outer P w H s Q E) s:=by
 have lim:s.heap.NoLimit:=e0.mod.nolimit.keeps λb o e=>(e0.bs b o e).1;refine PySem.W.kla_callFunE hr.depth hf rfl S.co S.gen rfl hcd ?_;rw[hb];refine Qf (wpAny_newFunctionEnv S.nocell (λz hz=>by rw[Qy.mp hz];exact S.par) (λh1 hns hsb=>?_) S.kind);have hk1:∀b o,s.heap.get? b=some o->h1.get? b=some o:=λb o e=>hsb.extBut b o (QB (Qq e)) (Qc _ e);refine⟨lim.keeps hk1,?_⟩;show codeAny _ _ (.expr l.body (PySem.W.envX l.qual l.scope s.heap.objs.size f (.ref c) [(y,cell)])) _ _;have I:=xj (f:=f) (c:=c) (E:=E) (tk:=s.toks+[(x,u)].length) S hr.hd e0 rx ry hc hH hns hk1;refine PySem.W.kla_codeExpr (XT (body (hr.deeper _) [] _ _ H Q I q) (λv s' hs=>?_) λe s' hs=>hs);obtain⟨v',H',J,rv,qv⟩:=hs;exact⟨v',H',J.os,J.bare,J.base,J.hok,rv,qv⟩
def Calls (P:Program) (w:World) (K:PySem.W.Frag) (mg:B2) (base:Heap) (k:Nat) (f:Addr) (r:V->Hp->VK->Prop):Prop :=
 ∀(X:Cx),X.prog=P->X.w=w->X.K=K->X.mg=mg->X.base=base->jq CX0 X E0->Room k X.A->∀pins s U H vx u (Q:VK),Inv X pins U H s->aL vx u->r vx H Q->wpAny (model X.prog X.w) X.A (call (.ref f) [u]) (EP X pins U Q) X.xe s
def Ak (f:Addr) (l:Lm) (y:Str) (cell c:Addr) (t:TE):V->Hp->VK->Prop:=λvx H Q=>∃(o:Obj) (uy:Value) (vy:V),H f=some (gW f l [(y,cell)] c)/\H c=some (hU c l.qual)/\H cell=some (dI o)/\o.data=.cell (some uy)/\aL vy uy /\
 t [some vx,some vy] (bQ H cell) λv H'=>Q v (upd H' cell (dI o))
theorem s_ {P:Program} {w:World} {K:PySem.W.Frag} {mg:B2} {base:Heap} {l:Lm} {k:Nat} {t:TE} (S:LmScope x y l.scope)
  (hb:∀(pm ctv u:Value),bindArgs (PySem.W.kla_fn "<lambda>" l.qual l.params l.body l.scope [(y,cell)] pm (.ref c) ctv) ⟨[u],[]⟩=pure [(x,u)])
  (body:∀(A:Around) (outer:List Env) (s:Shared) (H:Hp),Room k (A.deeper (PySem.W.envX l.qual l.scope s.heap.objs.size f (.ref c) [(y,cell)]))->PE (rG P w K mg base x y l f c cell A outer s H E0) l.body t) :
  Calls P w K mg base (k+1) f (Ak f l y cell c t):=by
 intro X e1 e2 e3 e4 e5 hx hr pins s U H vx u Q I rx h;subst e1 e2 e3 e4 e5;obtain⟨o,uy,vy,hf,hc,hcell,hd,ry,q⟩:=h;obtain⟨pm,ctv,ef⟩:=(I.hok f _ hf).1;have ec:s.heap.CodeRec (.ref c) l.qual:=(I.hok c _ hc).1;have eo:s.heap.get? cell=some o:=(I.hok cell _ hcell).1;have e0:=I.env0
 have nf:cell∉frs X.stack:=λz=>by
  have:=e0.frf cell z;rw[hcell]at this;cases this
 have e0':Env0 X.prog X.w X.K X.mg X.base X.A X.stack s (bQ H cell):=⟨e0.frames,e0.mod,λb ob e=>⟨(e0.bs b ob e).1,by
  by_cases z:b=cell
  ·rw[z];exact cO
  ·rw[bx z];exact(e0.bs b ob e).2⟩,e0.bsz,e0.funs,λb hb=>by
  by_cases z:b=cell
  ·rw[z];exact cO
  rw[bx z];exact e0.frf b hb,e0.hok.drop hcell,e0.bare⟩
 refine wpAny_call (codeAny_mono (w_ (E:=E0) S hr e0' rx ry ⟨o,eo,hd⟩ cO ef ec (hb pm ctv u) (body X.A X.stack s (bQ H cell)) q) λr s' hq=>?_)
 cases r with
 | error e=>exact False.elim hq
 | ok fl =>
 cases fl with
 | ret u =>
  obtain⟨v,H',os,bare,un,hok,rv,qv⟩:=hq;obtain⟨un',n',e'⟩:=un.back hcell eo nf (by simp);exact I.after ⟨v,_,os,bare,un',hok.take n' e',rv,qv⟩
 | next=>exact False.elim hq
 | brk=>exact False.elim hq
 | cont=>exact False.elim hq
def tS (P:Program) (w:World) (K:PySem.W.Frag) (mg:B2) (base:Heap) (k i:Nat) (te:TE):TE:=λU H Q=>∃f l cl c r,U[i]?=some (some (.ref f))/\Calls P w K mg base k f r/\H f=some (gW f l cl c)/\te U H λv H1=>H1 f=some (gW f l cl c)/\r v H1 Q
variable {U:St} {pins:B1} {X:Cx}
theorem nQ {l:Lm} (I:Inv X pins U H s) (h:H f=some (gW f l cl c)):PySem.W.FnAt f s.heap:=by
 obtain⟨pm,ctv,e⟩:=(I.hok f _ h).1;exact⟨_,_,_,_,e⟩
theorem uM {k i:Nat} {e:Expr} {te:TE} {p pos:Pos} (hr:Room k X.A) (hx:jq CX0 X E0) (hn:PE X (.Name n p) (fO i)) (he:PE X e te) (hs:starEach [e] X.env=[(false,eval e X.env)]:=by rfl) (hs0:starEach ([]:List Expr) X.env=[]:=by rfl) (hpl:(backTo pos (starEach [] X.env)).any (·.1)=false:=by rfl) :
  PE X (.Call (.Name n p) [e] [] pos) (tS X.prog X.w X.K X.mg X.base k i te):=by
 intro pins s U H Q I h;obtain⟨f,l,cl,c,r,hi,C,hf,h⟩:=h;refine wpAny_Call_Name_kw (thn (hn pins s U H (λv H1=>v=.ref f/\H1=H) I ⟨_,hi,rfl,rfl⟩) λu s1 ⟨v,H1,I1,ru,ev,eh⟩=>?_);subst ev eh;obtain rfl:u=Value.ref f:=ru;refine PySem.W.callWith_F (nQ I1 hf) ?_ (by rw[hs,hs0]) hpl;rw[hs];refine XI (thn (he pins s1 U H1 _ I1 h) λiv s2 ⟨v,H2,I2,rv,hf2,q⟩=>?_);refine Calls.spliced_nil ⟨nQ I2 hf2,?_⟩;exact C X rfl rfl rfl rfl rfl hx hr pins s2 U H2 v iv Q I2 rv q
theorem Inv.cellAt {i:Nat} {vy:V} (I:Inv X pins U H s) (hN:X.N[i]?=some y) (hi:U[i]?=some (some vy)) (hk:X.env.kindOf y=some .cell) (hv:Vis X.env.scope y) (hl:X.env.cells.lookup y=some cell) :
  ∃o uy,s.heap.get? cell=some o/\o.data=.cell (some uy)/\aL vy uy/\H cell=none:=by
 obtain⟨m,_,loc⟩:=I.loc;obtain⟨u,ru,lk⟩:=loc i y vy hN hi hv;rcases lk with⟨k,_⟩|⟨_,c,e,o,e1,e2⟩
 ·rw[hk]at k;cases k
 rw[hl]at e;cases e;exact⟨o,u,e1,e2,ru,I.freeC y cell hl⟩
theorem Inv.cellOut (I:Inv X pins U H s) (hf:X.fn y=true) (hl:X.env.cells.lookup y=some cell):cell∉frs X.stack:=λz=>by
 have ab:=I.ok.cab y cell hf hl
 have no:cell∉frs X.outer:=λz=>by
  obtain⟨_,o,ho,_⟩:=I.ok.funs.mem z;exact absurd (Qq ho) (Nat.not_lt.mpr ab)
 rcases I.ok.stk with e|⟨e,fr⟩
 ·rw[e]at z;exact no z
 rw[e]at z;unfold frs at z;rw[List.filterMap_cons,fr]at z;rcases Qj.mp z with z|z
 ·exact I.cne y cell hl z
 exact no z
def yL (sp:Sp) (i:Nat) (cell:Addr) (t:TA):TE:=λU H Q=>t U H λvs H1=>∃vy,U[i]?=some (some vy)/\∀o uy,o.data=.cell (some uy)->aL vy uy->H1 cell=none->sp vs (upd H1 cell (dI o)) (λv H2=>Q v (bQ H2 cell)) E0
variable {ps loose:List Str}
theorem y_ {k i:Nat} {sp:Sp} {e:Expr} {es:List Expr} {t:TA} {p pos:Pos} (F:Fn X.prog X.w X.K X.mg X.base x ps k sp) (hr:Room k X.A) (hg:Gl X x) (ha:PA X (e::es) t)
  (hN:X.N[i]?=some y) (hky:X.env.kindOf y=some .cell) (hv:Vis X.env.scope y) (hl:X.env.cells.lookup y=some cell) (hfn:X.fn y=true)
  (hdb:(x==("__debug__" : Str))=false:=by decide) (he:starEach (e::es) X.env=(false,eval e X.env)::starEach es X.env:=by rfl) (hpl:(backTo pos (starEach es X.env)).any (·.1)=false:=by rfl) :
  PE X (.Call (.Name x p) (e::es) [] pos) (yL sp i cell t):=by
 obtain⟨f,fd,G,hm,hk,hb⟩:=F.ex;intro pins s U H Q I h;refine wpAny_Call_Name_kw (lh I hg hm ?_ hdb);refine PySem.W.callWith_K (h₀:=X.base) I.ok.mod.kin hk (thn (ha pos pins s U H _ I h) λus s1 ⟨vs,H1,I1,r,q⟩=>⟨I1.kIn,?_⟩) he hpl;obtain⟨vy,hi,q⟩:=q;obtain⟨o,uy,e1,e2,ry,hn⟩:=I1.cellAt hN hi hky hv hl;have nf:=I1.cellOut hfn hl;have ab:=I1.ok.cab y cell hfn hl;have e0:=I1.env0
 have e0':Env0 X.prog X.w X.K X.mg X.base X.A X.stack s1 (upd H1 cell (dI o)):=⟨e0.frames,e0.mod,λb ob e=>⟨(e0.bs b ob e).1,by
  rw[ah]
  ·exact(e0.bs b ob e).2
  ·intro z;have:=Qq (I1.ok.bs b ob e).1;rw[z]at this
   exact absurd this (Nat.not_lt.mpr ab)⟩,e0.bsz,e0.funs,λb hb=>by
  rw[ah]
  ·exact e0.frf b hb
  intro z;rw[z]at hb;exact nf hb,e0.hok.take hn e1,e0.bare⟩
 have hl2:us.length=ps.length:=by rw[<-r.length];exact G.len _ _ _ _ (q o uy e2 ry hn)
 refine wpAny_call (codeAny_mono (G.run X.A X.stack s1 _ ⟨us,[]⟩ us vs _ E0 hr e0' (by have:=hb s1 us I1.kIn (by rw[List.append_nil];exact hl2);rwa [List.append_nil]at this) r (q o uy e2 ry hn)) λrr s' hq=>?_)
 cases rr with
 | error e=>exact False.elim hq
 | ok fl =>
 cases fl with
 | ret u =>
  obtain⟨v,H',os,bare,un,hok,rv,qv⟩:=hq;obtain⟨un',hok',_⟩:=un.out hok hn e1 nf;exact I1.after ⟨v,_,os,bare,un',hok',rv,qv⟩
 | next=>exact False.elim hq
 | brk=>exact False.elim hq
 | cont=>exact False.elim hq
structure FunC (K:PySem.W.Frag) (x qual:Str) (st:Stmt) (f:Addr) (fd:FuncData) (c:Addr):Prop where
 ex:∃oc od kV doc pm an ct osl,fd=PySem.W.fnOf x qual (cQ st) (b9 st) (au st) .none kV doc pm an (.ref c) ct/\K.lookup f=some ⟨oc,od,.func (PySem.W.fnOf x qual (cQ st) (b9 st) (au st) .none kV doc pm an (.ref c) ct),osl⟩/\PySem.W.codeIn K (.ref c) qual=true
section
variable {P:Program} {w:World} {K:PySem.W.Frag} {mg:B2} {base:Heap}
theorem FunC.ok {x qual:Str} {st:Stmt} {f c:Addr} {fd:FuncData} {N ps:List Str} {k:Nat} {sp:Sp} (F:FunC K x qual st f fd c) (S:FnScope N ps (au st)) (len:∀vs H Q E,sp vs H Q E->vs.length=ps.length)
  (hbody:∀(A:Around) (outer:List Env) (s:Shared) (H:Hp) (vs:List V) (Q:VK) (E:XK),Room k (A.deeper (envOfC qual (au st) s.heap.objs.size f (.ref c)))->sp vs H Q E ->
   ∃t,PSs (cxOf CX0 P w K mg base N qual (au st) f (.ref c) A outer s H E).nox (b9 st) t/\t { nx:=λ_ H'=>Q .non H',rt:=Q } (start N vs) H):FnOk P w K mg base CX0 (k+1) f fd ps sp:=by
 obtain⟨oc,od,kV,doc,pm,an,ct,osl,rfl,lk,hcd⟩:=F.ex;refine yt lk hcd S len λA outer s H vs Q E hr hsp=>?_;obtain⟨t,h,q⟩:=hbody A outer s H vs Q E hr hsp;exact⟨t,h.nox,q⟩
end
structure OnlyT (tabs:List (Addr × Addr)) (H:Hp):Prop where
 tab:∀q∈tabs,H q.2=some (.tbl #[])
 other:∀b,b∉tabs.map (·.2)->H b=none\/∃o xs,H b=some (.frz o (.lst xs))
theorem sN {P:Program} {w:World} {K:PySem.W.Frag} {mg mb:B2} {CX:CXT} {k:Nat} {fd:FuncData} {sp:Sp} {vs:List Value} {ns:List Int} {tabs:List (Addr × Addr)}
  (KX:K.In s₁.heap) (hns:s₁.heap.Ns mainGlobals mg) (hb:s₁.heap.Ns builtinsNs mb) (hbb:∀x:Str,x ≠ "__name__" -> mb x=bootBuiltins x) (hlim:s₁.heap.NoLimit) (hg:s₁.gens=#[])
  (hbm:fM s₁.heap mg) (hT:PySem.W.TabsAt tabs s₁.heap) (hTK:∀q∈tabs,K.lookup q.2=none)
  (ha:s₁.heap.get? a=some { cls:=.type "list", data:=.seq vs.toArray }) (hi:IntsAre vs ns) (hl:ns.length<=sizeLine) (hr:Room k callerA)
  (F:∀base:Heap,K.In base->base.Ns mainGlobals mg->fM base mg->FnOk P w K mg base CX k fa fd [x] sp) (hbind:∀(s:Shared) (u:Value),BindsTo s fd ⟨[u],[]⟩ [(x,u)])
  (hsp:∀H:Hp,OnlyT tabs H->SqL K H a (ns.map V.int)->sp [.ref a] H (λv _=>v=.bl true) λ_ _ _=>False)
  (hCX:∀H e s',CX [] H s₁ (λ_ _ _=>False) e s'->False) :
  codeAny (model P w) callerA (.call (.ref fa) ⟨[.ref a],[]⟩) (λr s'=>r=.ok (.ret (.bool true))/\OldK s₁.heap s'.heap/\s'.os=s₁.os/\AllBare s'.gens) s₁:=by
 have rv:=jD hi;have lenV:=hi.length
 have naT:a∉tabs.map (·.2):=λq=>by
  obtain⟨r,hr,e⟩:=Qm.mp q;have e2:=(hT r hr).2;rw[e,ha]at e2;cases e2
 have core:∀H:Hp,OnlyT tabs H->SqL K H a (ns.map V.int)->HOk P w H s₁.heap->(∀b,H b≠none->b=a\/b∈tabs.map (·.2))->(H a≠none->K.lookup a=none) ->
   codeAny (model P w) callerA (.call (.ref fa) ⟨[.ref a],[]⟩) (λr s'=>r=.ok (.ret (.bool true))/\OldK s₁.heap s'.heap/\s'.os=s₁.os/\AllBare s'.gens) s₁:=by
  intro H hO hS hok hA hK;have base_of:∀{b:Addr} {o:Obj},s₁.heap.get? b=some o->H b=none->(jx s₁.heap H).get? b=some o:=λe n=>vN e n
  have noA:∀{b:Addr} {o:Obj},s₁.heap.get? b=some o->(∀ps n,o.data≠.seq ps n)->(∀ps,o.data≠.fields ps)->H b=none:=λ{b o} e d1 d2=>by
   cases q:H b with
   | none=>rfl
   | some u =>
   rcases hA b (by rw[q];simp) with e'|e'
   ·subst e';rw[ha]at e;cases e;exact absurd rfl (d1 _ _)
   obtain⟨r,hr,er⟩:=Qm.mp e';have e2:=(hT r hr).2;rw[er,e]at e2;cases e2;exact absurd rfl (d2 _)
  have nsK:∀{b:Addr} {m:B2},s₁.heap.Ns b m->(jx s₁.heap H).Ns b m:=λ{b m} ⟨o,es,ep,e,d,r⟩=>⟨o,es,ep,base_of e (noA e (λ_ _ z=>by rw[d]at z;cases z) (λ_ z=>by rw[d]at z;cases z)),d,r⟩
  have hKb:K.In (jx s₁.heap H):=λb o e=>base_of (KX b o e) (by
   cases q:H b with
   | none=>rfl
   | some u =>
   rcases hA b (by rw[q];simp) with e'|e'
   ·subst e';rw[hK (by rw[q];simp)]at e;cases e
   obtain⟨r,hr,er⟩:=Qm.mp e';have e2:=hTK r hr;rw[er,e]at e2
   cases e2)
  have hM:Mod K mg (jx s₁.heap H):=⟨hKb,nsK hns,⟨mb,nsK hb,hbb⟩,let ⟨mc,h1,h2⟩:=hlim;⟨mc,nsK h1,h2⟩⟩
  have hB:fM (jx s₁.heap H) mg:=by
   obtain⟨bm,ob,b1,b2,b3,b4,b5,b6,b7⟩:=hbm;exact⟨bm,ob,b1,b2,b3,base_of b4 (noA b4 (λ_ _ z=>by rw[b7]at z;cases z) (λ_ z=>by rw[b7]at z;cases z)),b5,b6,b7⟩
  have e0:Env0 P w K mg (jx s₁.heap H) callerA [] s₁ H:=⟨rfl,hM,λb o e=>wS e,Nat.le_of_eq (sU _ _),trivial,λb hb=>absurd (show b∈([]:B3) from hb) (by simp),hok,.of_eq hg⟩;refine codeAny_mono ((F _ hKb (nsK hns) hB).run callerA [] s₁ H ⟨[.ref a],[]⟩ [.ref a] [.ref a] _ _ hr e0 (hbind s₁ (.ref a)) (.cons rfl .nil) (hsp H hO hS)) λr s' h=>?_
  cases r with
  | error e=>exact(hCX H e s' h).elim
  | ok fl =>
  cases fl with
  | next=>exact False.elim h
  | brk=>exact False.elim h
  | cont=>exact False.elim h
  | ret u =>
  obtain⟨v,H',os,bare,un,hok',r',q⟩:=h;have q':v=.bl true:=q;subst q';obtain rfl:u=Value.bool true:=r';refine⟨rfl,⟨λb o e=>?_,λb o e=>un.there b o e (by simp)⟩,os,bare⟩
  cases q:H b with
  | none=>exact .inl (un.keep b o e q (by intro z;exact absurd (show b∈([]:B3) from z) (by simp)) (by simp))
  | some u =>
  by_cases hb:b∈tabs.map (·.2)
  ·obtain⟨r,hr,er⟩:=Qm.mp hb;have t1:=hO.tab r hr;have e2:=(hT r hr).2;have ict:=((hT r hr).1.tab (hT r hr).2).isCodeTable;rw[er]at t1 e2 ict;rw[e]at e2;cases e2;obtain⟨more,t2⟩:=un.tbls b _ t1;have t3:s'.heap.get? b=some { cls:=.none,data:=.fields (#[]++more) }:=hok' b _ t2;exact .inr (.inl ⟨ict,rfl,#[],more,rfl,t3⟩)
  rcases hO.other b hb with z|⟨ob,xs,z⟩
  ·rw[q]at z;cases z
  have z2:=un.frzs b ob _ z;obtain⟨e1,_⟩:=hok b _ z;obtain⟨e2,_⟩:=hok' b _ z2;rw[e]at e1;cases e1;exact .inl e2
 let HT:Hp:=λb=>if b∈tabs.map (·.2) then some (.tbl #[]) else none
 have htab:∀b,b∈tabs.map (·.2)->s₁.heap.get? b=some (PySem.W.tabObj #[]):=λb hb=>by
  obtain⟨r,hr,er⟩:=Qm.mp hb;rw[<-er];exact(hT r hr).2
 cases hk:K.lookup a with
 | some o =>
  have e:=KX a o hk;rw[ha]at e;cases e;refine core HT ⟨λq hq=>Qs (Qm.mpr ⟨q,hq,rfl⟩),λb hb=>.inl (Qo hb)⟩ (.inr ⟨_,vs.toArray,_,hk,rfl,rfl,rfl,by rw[Ql,lenV];exact hl,by simpa using rv⟩) (λb u z=>?_) (λb z=>?_) λz=>absurd (Qo naT) z
  ·by_cases hb:b∈tabs.map (·.2)
   ·have z':=(Qs hb).symm.trans z;cases z';exact htab b hb
   have z':=(Qo hb).symm.trans z;cases z'
  by_cases hb:b∈tabs.map (·.2)
  ·exact .inr hb
  exact absurd (Qo hb) z
 | none =>
 let HA:Hp:=λb=>if b=a then some (.frz { cls:=.type "list", data:=.seq vs.toArray } (.lst (ns.map V.int))) else HT b;have hA1:HA a=some (.frz { cls:=.type "list", data:=.seq vs.toArray } (.lst (ns.map V.int))):=Qs rfl;have hA2:∀b,b≠a->HA b=HT b:=λb h=>Qo h;refine core HA ⟨λq hq=>?_,λb hb=>?_⟩ (.inl (.inr ⟨{ cls:=.type "list", data:=.seq vs.toArray },hA1⟩)) (λb u z=>?_) (λb z=>?_) λ_=>hk
 ·rw[hA2 _ λz=>naT (Qm.mpr ⟨q,hq,z⟩)];exact Qs (Qm.mpr ⟨q,hq,rfl⟩)
 ·by_cases hba:b=a
  ·subst hba;exact .inr ⟨_,_,hA1⟩
  rw[hA2 b hba];exact .inl (Qo hb)
 ·by_cases hba:b=a
  ·subst hba;rw[hA1]at z;cases z;exact⟨ha,by rw[Qb];exact hl,vs,_,rv,ha⟩
  rw[hA2 b hba]at z;by_cases hb:b∈tabs.map (·.2)
  ·have z':=(Qs hb).symm.trans z;cases z';exact htab b hb
  have z':=(Qo hb).symm.trans z;cases z'
 by_cases hba:b=a
 ·exact .inl hba
 rw[hA2 b hba]at z;by_cases hb:b∈tabs.map (·.2)
 ·exact .inr hb
 exact absurd (Qo hb) z
theorem v5 {p:Program} {mean:ExcName->Option Value} {mg mb:B2} (T:Top p loose mean mg mb h):fM h mg:=by
 obtain⟨bm,ob,b1,b2,b3,b4,b5,b6⟩:=T.bmain;refine⟨bm,ob,b1,b2,λq=>?_,b3,b4,b5,b6⟩;obtain⟨o,es,ep,e,hd,_⟩:=T.g;rw[q,e]at b3;cases b3;rw[hd]at b6;cases b6
variable {l:PySem.W.OpenLaw}
theorem tF {n k:Nat} {q:Program} {XP:B2->Heap->Prop} {YP:World->Heap->Prop} {d:DefRec} {K:Params->PySem.W.Frag} {CX:World->CXT} {sp:World->Sp} (tabs:World->List (Addr × Addr))
  (hn:l.most=some n) (hn2:n<=sizeLine) (hdf:d.params.defaults=[]) (hr:Room k callerA)
  (hY:∀(w:World) (h:Heap),YP w h->(K w.params).In h) (hY2:∀(w:World) (h:Heap),YP w h->PySem.W.TabsAt (tabs w) h) (hTK:∀(w:World),∀q∈tabs w,(K w.params).lookup q.2=none)
  (F:∀(w:World) (mg:B2) (fa:Addr) (h:Heap),(K w.params).In h->h.Ns mainGlobals mg->mg d.name=some (.ref fa) ->
   ∃fd:FuncData,(∀(s:Shared) (u:Value),BindsTo s fd ⟨[u],[]⟩ [(x,u)]) /\
    ∀base:Heap,(K w.params).In base->base.Ns mainGlobals mg->fM base mg->FnOk l.prog w (K w.params) mg base (CX w) k fa fd [x] (sp w))
  (hsp:∀(w:World) (H:Hp) (a:Addr) (ns:List Int),ns.length<=n->OnlyT (tabs w) H->SqL (K w.params) H a (ns.map V.int)->sp w [.ref a] H (λv _=>v=.bl true) λ_ _ _=>False)
  (hCX:∀(w:World) (H:Hp) (s:Shared) (e:Value) (s':Shared),CX w [] H s (λ_ _ _=>False) e s'->False) :
  PySem.W.WalkO q loose XP YP l.row.toRowW d [] (λf vs=>PySem.call f vs):=by
 refine Att.oo hn hdf λw s₀ s₁ mg mb fa o pm cd doc a vs ns G Y ho hd hcd hmg hobj hints hlen hg=>?_;have KX:=hY w _ Y;obtain⟨fd,hb,hF⟩:=F w mg fa _ KX G.T.g hmg;exact sN KX G.T.g G.T.b G.T.builtins G.T.nolimit hg (v5 G.T) (hY2 w _ Y) (hTK w) hobj hints (QJ hlen hn2) hr hF hb (λH hO hS=>hsp w H a ns hlen hO hS) λH e s'=>hCX w H s₁ e s'
def pJ (K:PySem.W.Frag) (ts:B3):List (Addr × Addr):=ts.flatMap λT=>(K.filter λp=>PySem.W.codeHdIn K p.1 T).map λp=>(p.1,T)
def gj (K:PySem.W.Frag) (ts:B3):Bool:=ts.all λT=>(K.any λp=>PySem.W.codeHdIn K p.1 T)&&(K.lookup T).isNone
variable {ts as:B3}
theorem iW {K:PySem.W.Frag} {q:Addr × Addr} (h:q∈pJ K ts):q.2∈ts/\PySem.W.codeHdIn K q.1 q.2=true:=by
 obtain⟨T,hT,h⟩:=List.mem_flatMap.mp h;obtain⟨p,hp,rfl⟩:=Qm.mp h;exact⟨hT,(QW.mp hp).2⟩
theorem pI {K:PySem.W.Frag} (ok:gj K ts=true) (hT:T∈ts):∃c,(c,T)∈pJ K ts:=by
 have h:=QT.mp ok T hT;rw[Xz]at h;obtain⟨p,hp,e⟩:=List.any_eq_true.mp h.1;exact⟨p.1,List.mem_flatMap.mpr ⟨T,hT,Qm.mpr ⟨p,QW.mpr ⟨hp,e⟩,rfl⟩⟩⟩
theorem pH {K:PySem.W.Frag} (ok:gj K ts=true) (hT:T∈ts):K.lookup T=none:=by
 have h:=QT.mp ok T hT;rw[Xz]at h;exact Option.isNone_iff_eq_none.mp h.2
theorem tG {n k:Nat} {q:Program} {XP:B2->Heap->Prop} {d:DefRec} {K:Params->PySem.W.Frag} {e:∀P,as=(K P).map (·.1)} {CX:World->CXT} {sp:World->Sp}
  (hn:l.most=some n) (hn2:n<=sizeLine) (hdf:d.params.defaults=[]) (hr:Room k callerA) (ok:∀w:World,gj (K w.params) ts=true)
  (F:∀(w:World) (mg:B2) (fa:Addr) (h:Heap),(K w.params).In h->h.Ns mainGlobals mg->mg d.name=some (.ref fa) ->
   ∃fd:FuncData,(∀(s:Shared) (u:Value),BindsTo s fd ⟨[u],[]⟩ [(x,u)]) /\
    ∀base:Heap,(K w.params).In base->base.Ns mainGlobals mg->fM base mg->FnOk l.prog w (K w.params) mg base (CX w) k fa fd [x] (sp w))
  (hsp:∀(w:World) (H:Hp) (a:Addr) (ns:List Int),ns.length<=n->(∀T∈ts,H T=some (.tbl #[]))->SqL (K w.params) H a (ns.map V.int)->sp w [.ref a] H (λv _=>v=.bl true) λ_ _ _=>False)
  (hCX:∀(w:World) (H:Hp) (s:Shared) (e:Value) (s':Shared),CX w [] H s (λ_ _ _=>False) e s'->False) :
  PySem.W.WalkO q loose XP (PySem.W.kmHook K as e ts).says l.row.toRowW d [] (λf vs=>PySem.call f vs):=by
 refine tF (λw=>pJ (K w.params) ts) hn hn2 hdf hr (λw h Y=>PySem.W.km_in_of Y) (λw h Y q hq=>?_) (λw q hq=>pH (ok w) (iW hq).1) F (λw H a ns h1 hO hS=>hsp w H a ns h1 (λT hT=>?_) hS) hCX
 ·obtain⟨h1,h2⟩:=iW hq;exact⟨PySem.W.codeHd_of_K (PySem.W.km_in_of Y) h2,PySem.W.km_tabs_of Y _ h1⟩
 obtain⟨c,hc⟩:=pI (ok w) hT;exact hO.tab _ hc
def Fz:HO->Prop
 | .dK _=>True
 | .dT _=>True
 | .lst _=>True
 | _=>False
def back (H:Hp) (a:Addr) (H':Hp):Hp:=λb=>if b=a then H a else H' b
theorem fB:back H a H' a=H a:=Qs rfl
theorem bJ (h:b≠a):back H a H' b=H' b:=Qo h
section
variable {X:Cx} {pins:B1} {U σ':St} {H H':Hp} {s s':Shared} {a:Addr} {u:HO} {o:Obj}
theorem kW (r:Rd H a u):∃v,H a=some v:=by
 rcases r with r|⟨o,r⟩ <;> exact⟨_,r⟩
theorem yc (r:Rd H a u) (f:Fz u):(∀xs,H a≠some (.tup xs))/\(∀ps,H a≠some (.tbl ps))/\(∀x,H a≠some (.own x))/\∀ob v,H a=some (.frz ob v)->v=u:=by
 rcases r with r|⟨o,r⟩
 ·refine⟨λxs z=>?_,λps z=>?_,λx z=>?_,λob v z=>?_⟩ <;> (rw[r]at z;cases z;exact f.elim)
 refine⟨λxs z=>?_,λps z=>?_,λx z=>?_,λob v z=>?_⟩ <;> (rw[r]at z;cases z);rfl
theorem Inv.freeze (I:Inv X pins U H s) (r:Rd H a u) (f:Fz u) (e:s.heap.get? a=some o):Inv X pins U (upd H a (.frz o u)) s:=by
 obtain⟨v,hv⟩:=kW r;obtain⟨n1,n2,n3,n4⟩:=yc r f;have ne:∀{b},H b=none->b≠a:=λh z=>by rw[z,hv]at h;cases h
 have ok:=r.ok I.hok;refine⟨I.ok,I.os,I.bare,⟨I.base.keep,I.base.slot,λb ob q n hx=>?_,I.base.there,λb xs q=>?_,λb ob w q=>?_,λb ps q=>?_⟩,I.loc,I.cell,?_,λx c h=>?_,λp hp=>?_,λb w q=>?_,I.len⟩
 ·have:=I.base.free b ob q n hx;rw[ah (ne this)];exact this
 ·have:=I.base.tups b xs q;rw[ah (λz=>n1 xs (by rw[<-z];exact this))];exact this
 ·have z:=I.base.frzs b ob w q;by_cases hb:b=a
  ·subst hb;have ew:=n4 ob w z;subst ew;obtain⟨e1,_⟩:=I.hok b _ z;rw[e]at e1;cases e1;exact af
  rw[ah hb];exact z
 ·obtain⟨more,z⟩:=I.base.tbls b ps q;exact⟨more,by rw[ah (λy=>n2 _ (by rw[<-y];exact z))];exact z⟩
 ·rw[ah (ne I.free)];exact I.free
 ·rw[ah (ne (I.freeC x c h))];exact I.freeC x c h
 ·obtain⟨p1,p2,p3,p4,p5⟩:=I.pin p hp;exact⟨p1,by rw[ah (ne p2)];exact p2,p3,p4,p5⟩
 have st:∀{b w},be X.prog X.w H s.heap b w->be X.prog X.w (upd H a (.frz o u)) s.heap b w:=λh=>h.stay (λ_ _ _ q=>q) (λd q=>by rw[ah (λz=>n3 _ (by rw[<-z];exact q))];exact q) λd xs q=>by rw[ah (λz=>n1 _ (by rw[<-z];exact q))];exact q
 by_cases hb:b=a
 ·subst hb;rw[af]at q;cases q;exact⟨e,st ok⟩
 rw[ah hb]at q;exact st (I.hok b w q)
theorem Inv.thaw (I:Inv X pins U H s) (r:Rd H a u) (f:Fz u) (e:s.heap.get? a=some o) (J:Inv X pins σ' H' s') (h':H' a=some (.frz o u)):Inv X pins σ' (back H a H') s':=by
 obtain⟨v,hv⟩:=kW r;obtain⟨n1,n2,n3,n4⟩:=yc r f;have ne:∀{b},H' b=none->b≠a:=λh z=>by rw[z,h']at h;cases h
 have ok:=J.hok a _ h';refine⟨J.ok,J.os,J.bare,⟨J.base.keep,J.base.slot,λb ob q n hx=>?_,J.base.there,λb xs q=>?_,λb ob w q=>?_,λb ps q=>?_⟩,J.loc,J.cell,?_,λx c h=>?_,λp hp=>?_,λb w q=>?_,J.len⟩
 ·have:=J.base.free b ob q n hx;rw[bJ (ne this)];exact this
 ·have:=J.base.tups b xs q;rw[bJ (λz=>by rw[z,h']at this;cases this)];exact this
 ·by_cases hb:b=a
  ·subst hb;rw[fB];exact I.base.frzs b ob w q
  rw[bJ hb];exact J.base.frzs b ob w q
 ·obtain⟨more,z⟩:=J.base.tbls b ps q;exact⟨more,by rw[bJ (λy=>by rw[y,h']at z;cases z)];exact z⟩
 ·rw[bJ (ne J.free)];exact J.free
 ·rw[bJ (ne (J.freeC x c h))];exact J.freeC x c h
 ·obtain⟨p1,p2,p3,p4,p5⟩:=J.pin p hp;exact⟨p1,by rw[bJ (ne p2)];exact p2,p3,p4,p5⟩
 have st:∀{b w},be X.prog X.w H' s'.heap b w->be X.prog X.w (back H a H') s'.heap b w:=λh=>h.stay (λ_ _ _ q=>q) (λd q=>by rw[bJ (λz=>by rw[z,h']at q;cases q)];exact q) λd xs q=>by rw[bJ (λz=>by rw[z,h']at q;cases q)];exact q
 by_cases hb:b=a
 ·subst hb;rw[fB]at q;rcases r with r|⟨o2,r⟩
  ·rw[r]at q;cases q;exact st ok.2
  obtain⟨e2,_⟩:=I.hok b _ r;rw[e]at e2;cases e2;rw[r]at q;cases q;exact⟨ok.1,st ok.2⟩
 rw[bJ hb]at q;exact st (J.hok b w q)
noncomputable def xP (D:Ends) (H:Hp) (a:Addr) (o:Obj) (u:HO):Ends where
 nx:=λσ' H'=>H' a=some (.frz o u)/\D.nx σ' (back H a H')
 bk:=λσ' H'=>H' a=some (.frz o u)/\D.bk σ' (back H a H')
 ct:=λσ' H'=>H' a=some (.frz o u)/\D.ct σ' (back H a H')
 rt:=λv H'=>H' a=some (.frz o u)/\D.rt v (back H a H')
def Aa (t:TS):TS:=λD U H=>∃a u,Rd H a u/\Fz u/\∀o,t (xP D H a o u) U (upd H a (.frz o u))
theorem uA {st:Stmt} {t:TS} (h:PS X st t):PS X st (Aa t):=by
 intro pins s U H D I q;obtain⟨a,u,r,f,q⟩:=q;obtain⟨v,hv⟩:=kW r
 obtain⟨o,e⟩:∃o,s.heap.get? a=some o:=by
  rcases r with r|⟨o,r⟩
  ·have:=(I.hok a _ r)
   cases u with
   | lst xs=>obtain⟨_,_,_,_,e⟩:=this;exact⟨_,e⟩
   | dK kvs=>obtain⟨_,_,_,_,o,_,_,e,_⟩:=this;exact⟨_,e⟩
   | dT kvs=>obtain⟨_,_,_,_,o,_,_,e,_⟩:=this;exact⟨_,e⟩
   | _=>exact f.elim
  exact⟨o,(I.hok a _ r).1⟩
 refine XT (h pins s U _ _ (I.freeze r f e) (q o)) (λfl s' z=>?_) λ_ _ z=>z
 cases fl with
 | next=>obtain⟨σ',H',J,h1,h2⟩:=z;exact⟨σ',_,I.thaw r f e J h1,h2⟩
 | brk=>obtain⟨σ',H',J,h1,h2⟩:=z;exact⟨σ',_,I.thaw r f e J h1,h2⟩
 | cont=>obtain⟨σ',H',J,h1,h2⟩:=z;exact⟨σ',_,I.thaw r f e J h1,h2⟩
 | ret w=>obtain⟨v,σ',H',J,rv,h1,h2⟩:=z;exact⟨v,σ',_,I.thaw r f e J h1,rv,h2⟩
def z_ (t:TE):TE:=λU H Q=>∃a u,Rd H a u/\Fz u/\∀o,t U (upd H a (.frz o u)) λv H'=>H' a=some (.frz o u)/\Q v (back H a H')
theorem yZ {ex:Expr} {t:TE} (h:PE X ex t):PE X ex (z_ t):=by
 intro pins s U H Q I q;obtain⟨a,u,r,f,q⟩:=q
 obtain⟨o,e⟩:∃o,s.heap.get? a=some o:=by
  rcases r with r|⟨o,r⟩
  ·have:=(I.hok a _ r)
   cases u with
   | lst xs=>obtain⟨_,_,_,_,e⟩:=this;exact⟨_,e⟩
   | dK kvs=>obtain⟨_,_,_,_,o,_,_,e,_⟩:=this;exact⟨_,e⟩
   | dT kvs=>obtain⟨_,_,_,_,o,_,_,e,_⟩:=this;exact⟨_,e⟩
   | _=>exact f.elim
  exact⟨o,(I.hok a _ r).1⟩
 refine XT (h pins s U _ _ (I.freeze r f e) (q o)) (λv s' z=>?_) λ_ _ z=>z;obtain⟨v',H',J,rv,h1,h2⟩:=z;exact⟨v',_,I.thaw r f e J h1,rv,h2⟩
end
def Itd (a:Addr) (o:Obj) (kvs:List (Key × V)):It :=
 ⟨λi H=>H a=some (.frz o (.dK kvs))/\i<kvs.length,λi H x H'=>H'=H/\∃k v,kvs[i]?=some (k,v)/\x=kV k,λi H=>H a=some (.frz o (.dK kvs))/\kvs.length<=i⟩
theorem AN {P:Program} {w:World} {k:Key} (h:(ax P w).is k u=true):aL (kV k) u:=by
 rcases aN (show dN k u=true from h) with⟨i,t,rfl,rfl⟩|⟨x,t,rfl,rfl⟩
 ·exact⟨t,rfl⟩
 exact⟨t,rfl⟩
theorem KV.len {κ:Type} {xs:List (κ × V)} {ys:List (κ × Value)} (r:KV xs ys):xs.length=ys.length:=Xr r
theorem KV.get {κ:Type}:∀{xs:List (κ × V)} {ys:List (κ × Value)} {i:Nat} {k:κ} {v:V},KV xs ys->xs[i]?=some (k,v)->∃u,ys[i]?=some (k,u)/\aL v u
 | _,_,_,_,_,.nil,e=>by simp at e
 | _,(k',u)::_,0,k,v,.cons r _,e=>by
  simp at e;subst e;obtain⟨r1,r2⟩:=r;have r1:k=k':=r1;subst r1;exact⟨u,rfl,r2⟩
 | _,_,i+1,k,v,.cons _ t,e=>by
  obtain⟨u,h1,h2⟩:=KV.get (i:=i) t (by simpa using e);exact⟨u,by simpa using h1,h2⟩
variable {kvs:List (Key × V)}
theorem fV {o:Obj} {es:Array DictEntry} {ep:Nat} (I:Inv X pins U H s) (h:H a=some (.frz o (.dK kvs))) (hd:o.data=.dict es ep) :
  ∃vs,KV kvs vs/\s.heap.DictAt (ax X.prog X.w) a vs ep/\(a==sysModules)=false:=by
 obtain⟨e1,z,y,vs,rel,ob,es',ep',e2,c,d,r⟩:=I.hok a _ h;rw[e1]at e2;cases e2;rw[hd]at d;cases d;exact⟨vs,rel,⟨o,es,e1,c,hd,r⟩,y⟩
theorem rQ {P:Program} {w:World} {K:PySem.W.Frag} {tg:Expr} (a it:Addr) (o:Obj) (kvs:List (Key × V)) (es:Array DictEntry) (ep:Nat) (hd:o.data=.dict es ep):Turn P w K tg (Itd a o kvs) [it] it (λi h=>h.IsKeyIter it a i kvs.length ep) where
 mem:=by simp
 obj:=λi h st b hb=>by
  have e:b=it:=by simpa using hb
  subst e;obtain⟨ob,e,c,d⟩:=st;exact⟨ob,e,λv z=>by rw[d]at z;cases z⟩
 keep:=λi h h' st k=>st.at λo e=>k it (by simp) o e
 item:=by
  intro X hP hw hK hc i pins s U H E I hf st hg;subst hP hw hK;obtain⟨hz,hi⟩:=hg;obtain⟨vs,rel,da,_⟩:=fV I hz hd;obtain⟨⟨k,v⟩,hx⟩:∃p,kvs[i]?=some p:=⟨kvs[i],by simp[hi]⟩;obtain⟨u,hu,ru⟩:=rel.get hx;obtain⟨f0,f1,f2,f3,f4,f5⟩:=hf it (by simp);have st0:=st;rw[rel.len]at st;refine wpAny_pyNext_dict_item st da hu λkey h' hkey st' sb=>?_;have I1:Inv X pins U H { s with heap:=h' }:=I.turned (t':=s.toks) (λb o hb e=>(sb.2 b hb).trans e) f0 f1 f3 f4 f5;rw[<-rel.len]at st';obtain⟨ob,e,c,d⟩:=id st';exact⟨key,rfl,nM (s:={ s with heap:=h' }) e c d (by decide) ⟨kV k,H,I1,AN hkey,⟨rfl,k,v,hx,rfl⟩,st',λb hb=>(hf b hb).1⟩⟩
 done:=by
  intro X hP hw hK hc i pins s U H E I hf st hg;subst hP hw hK;obtain⟨hz,hi⟩:=hg;obtain⟨vs,rel,da,_⟩:=fV I hz hd;obtain⟨f0,f1,f2,f3,f4,f5⟩:=hf it (by simp);rw[rel.len]at st;exact wpAny_pyNext_dict_end (I.ok.hd hc) st da (QY (by rw[<-rel.len];exact hi)) λh' eb=>⟨rfl,I.turned (t':=s.toks) (λb o hb e=>eb b o hb e) f0 f1 f3 f4 f5⟩
 self:=λ_ _ _ _ _ st h=>wpAny_pyIter_keyiter st h
def vL (tl:TE):TI:=λU H R=>tl U H λx H1=>∃a o kvs,x=.ref a/\H1 a=some (.frz o (.dK kvs))/\R (Itd a o kvs) H1
section
variable {X:Cx} {tg:Expr}
theorem mN {l:Expr} {tl:TE} (hl:PE X l tl):PI X tg l (vL tl):=by
 intro pins s U H R I h;refine thn (hl pins s U H _ I h) λv s1 ⟨x,H1,I1,r1,q1⟩=>?_;obtain⟨a,o,kvs,e,hz,q⟩:=q1;subst e;cases r1;obtain⟨e1,_,_,vs,rel,ob,es,ep,e2,c,d,r⟩:=I1.hok a _ hz;rw[e1]at e2;cases e2;obtain⟨vs,rel,da,hm⟩:=fV I1 hz d;refine wpAny_pyIter_dict hm da ?_;refine⟨s1.heap.objs.size,[s1.heap.objs.size],_,_,H1,rfl,I1.kept (t':=s1.toks) λb o e=>Qc _ e,rQ a _ o kvs es ep d,⟨_,Qt _ rfl,rfl,by rw[rel.len];rfl⟩,λb hb=>?_,q⟩;have e:b=s1.heap.objs.size:=by simpa using hb
 subst e;exact I1.fpOk (Qg _) (I1.hok.fresh (Qg _))
end
theorem nO {o:Obj} {g:TG} {tb:TS} {D:Ends} (Pv:Nat->St->Hp->Prop) (h0:Pv 0 U H) (hl:∀i U H,i<=kvs.length->Pv i U H->H a=some (.frz o (.dK kvs)))
  (hs:∀i k v U H,kvs[i]?=some (k,v)->Pv i U H->g (kV k) U H λσ2 H2=>tb { D with nx:=Pv (i+1),ct:=Pv (i+1),bk:=D.nx } σ2 H2) (hd:∀U H,Pv kvs.length U H->D.nx U H) :
  ∃W:Nat->Nat->St->Hp->Prop,(∃m,W 0 m U H)/\∀i m U H,W i m U H ->
   ((Itd a o kvs).stop i H/\D.nx U H)\/((Itd a o kvs).go i H/\∃N:St->Hp->Prop,(∀σ' H',N σ' H'->∃m',m'<m/\W (i+1) m' σ' H')/\∀x H',(Itd a o kvs).yld i H x H'->g x U H' λσ2 H2=>tb { D with nx:=N,ct:=N,bk:=D.nx } σ2 H2):=by
 refine⟨λi m U H=>m=kvs.length-i/\i<=kvs.length/\Pv i U H,⟨kvs.length,by simp,QR _,h0⟩,?_⟩;rintro i m U H ⟨rfl,hi,p⟩;have q:=hl i U H hi p;by_cases hlt:i<kvs.length
 ·refine .inr ⟨⟨q,hlt⟩,Pv (i+1),λσ' H' p'=>⟨kvs.length-(i+1),by exact om6 hlt,rfl,hlt,p'⟩,λx H' y=>?_⟩;obtain⟨e,k,v,hk,ex⟩:=y;subst e ex;exact hs i k v U _ hk p
 have e:i=kvs.length:=by exact om0 hi hlt
 subst e;exact .inl ⟨⟨q,Qg _⟩,hd U H p⟩
def tP (td ty tx:TE):TE:=λU H Q=>td U H λx H1=>∃a,x=.ref a/\IsD H1 a/\ty U H1 λy H2=>tx U H2 λz H3=>∃kvs k,H3 a=some (.dK kvs)/\y=kV k /\
 (∀v,aU kvs k=some v->Q v H3)/\(aU kvs k=none->kvs.length<sizeLine/\Q z (upd H3 a (.dK (bv kvs k z))))
section
variable {X:Cx} {o e f:Expr} {apos cpos:Pos} {td ty tx:TE}
theorem uH (ho:PE X o td) (he:PE X e ty) (hf:PE X f tx) (m:M2 X o "setdefault" apos e f cpos):PE X (.Call (.Attribute o "setdefault" apos) [e,f] [] cpos) (tP td ty tx):=by
 intro pins s U H Q I h;refine wpAny_Call_method m.base m.few m.line PySem.F.plainAttrs_dict PySem.F.slot_dict_setdefault PySem.F.type_dict_setdefault (thn (ho pins s U H _ I h) λu s1 ⟨x,H1,I1,rx,a,ex,d,q1⟩=>?_);subst ex;obtain rfl:u=Value.ref a:=rx;obtain⟨t1,t2,_⟩:=pP I1 d;refine⟨t1,t2,?_⟩;rw[m.trees]
 refine Calls.callWith_builtin rfl (Calls.evalArgs_plain (XI (thn (he pins s1 U H1 _ I1 q1) λiv s2 ⟨y,H2,I2,ry,q2⟩ =>
  XI (thn (hf pins s2 U H2 _ I2 q2) λfv s3 ⟨z,H3,I3,rz,kvs,k,ea,ey,q3,q4⟩=>Calls.spliced_nil ?_))))
 subst ey;obtain⟨zl,hd,vs,rel,dd⟩:=vW I3.hok ea
 refine call_meetsIn PySem.F.slot_dict_setdefault dd.typeIs PySem.F.entry_dict_setdefault (PySem.F.args_dict_setdefault_3 _ _ _) (kt_meets_setdefault (ax X.prog X.w) a (gr ry) hd fv)
  ⟨vs,dd,by rw[<-rel.length];exact zl,λv' hv'=>?_,λhn h' dd' hs=>?_⟩
 ·have r:=rel.val k;rw[hv']at r
  cases l:aU kvs k with
  | none=>rw[l]at r;exact r.elim
  | some v=>rw[l]at r;exact⟨v,H3,I3.tok _,r,q3 v l⟩
 have r:=rel.val k;rw[hn]at r
 cases l:aU kvs k with
 | some v=>rw[l]at r;exact r.elim
 | none =>
 obtain⟨zl',q5⟩:=q4 l;have he:∃q,h'.get? a=some q:=let ⟨q,_,_,hq,_⟩:=dd';⟨q,hq⟩
 have hl:(bv kvs k z).length<=sizeLine:=by
  rw[eX z l,Qh];exact zl'
 exact⟨z,_,gA I3 (by rw[ea];exact True.intro) hs he (pW hl hd (rel.put k rz) dd'),rz,q5⟩
end
end L2
namespace Bf
section
variable {κ:Type} [DecidableEq κ]
def a_ (w:List κ):List κ->List κ
 | []=>w
 | k::ks=>a_ (if k∈w then w else w++[k]) ks
def bfs (nx:κ->List κ) (s:κ):Nat->List κ
 | 0=>[s]
 | n+1=>match (bfs nx s n)[n]? with
  | some h=>a_ (bfs nx s n) (nx h)
  | none=>bfs nx s n
inductive Reach (nx:κ->List κ) (s:κ):κ->Prop
 | start:Reach nx s s
 | step {a b:κ}:Reach nx s a->b∈nx a->Reach nx s b
theorem cP:∀(ks w:List κ),w <+: a_ w ks
 | [],w=>List.prefix_refl w
 | k::ks,w=>by
  unfold a_;refine List.IsPrefix.trans ?_ (cP ks _)
  split
  ·exact List.prefix_refl w
  exact List.prefix_append w [k]
theorem eO:∀(ks w:List κ) (x:κ),x∈a_ w ks↔x∈w\/x∈ks
 | [],w,x=>by simp[a_]
 | k::ks,w,x=>by
  unfold a_;rw[eO ks]
  split
  ·rename_i h
   constructor
   ·rintro(q|q)
    ·exact .inl q
    exact .inr (Qn _ q)
   rintro(q|q)
   ·exact .inl q
   rcases Qj.mp q with e|q
   ·subst e;exact .inl h
   exact .inr q
  rw[Qz,Qy,Qj,or_assoc]
theorem eN:∀(ks w:List κ),w.Nodup->(a_ w ks).Nodup
 | [],w,h=>h
 | k::ks,w,h=>by
  unfold a_;refine eN ks _ ?_
  split
  ·exact h
  rename_i hk
  rw[X4];refine⟨h,by simp,λa ha b hb=>?_⟩;rw[Qy]at hb;subst hb;intro e;subst e;exact hk ha
theorem jB (w ks ls:List κ):a_ w (ks++ls)=a_ (a_ w ks) ls:=by
 induction ks generalizing w with
 | nil=>rfl
 | cons k ks ih=>exact ih _
theorem qg {w:List κ} {k:κ} (h:k∈w):a_ w [k]=w:=by simp[a_,h]
theorem qf {w:List κ} {k:κ} (h:k∉w):a_ w [k]=w++[k]:=by simp[a_,h]
variable {nx:κ->List κ} {s:κ}
variable {n i:Nat}
theorem d9 {h:κ} (e:(bfs nx s n)[n]?=some h):bfs nx s (n+1)=a_ (bfs nx s n) (nx h):=by
 show (match (bfs nx s n)[n]? with|some h=>a_ (bfs nx s n) (nx h)|none=>bfs nx s n)=_;rw[e]
theorem fg (e:(bfs nx s n)[n]?=none):bfs nx s (n+1)=bfs nx s n:=by
 show (match (bfs nx s n)[n]? with|some h=>a_ (bfs nx s n) (nx h)|none=>bfs nx s n)=_;rw[e]
theorem on (n:Nat):bfs nx s n <+: bfs nx s (n+1):=by
 cases e:(bfs nx s n)[n]? with
 | none=>rw[fg e];exact List.prefix_refl _
 | some h=>rw[d9 e];exact cP _ _
theorem iq (n:Nat):∀m,bfs nx s n <+: bfs nx s (n+m)
 | 0=>List.prefix_refl _
 | m+1=>(iq n m).trans (on (n+m))
theorem ii {xs ys:List κ} (h:xs <+: ys) {x:κ} (e:xs[i]?=some x):ys[i]?=some x:=by
 obtain⟨t,rfl⟩:=h;rw[QC (Qd.mp e).1];exact e
theorem iL {xs ys:List κ} (h:xs <+: ys) {x:κ} (hi:i<xs.length) (e:ys[i]?=some x):xs[i]?=some x:=by
 obtain⟨t,rfl⟩:=h;rw[QC hi]at e;exact e
theorem dq:∀n,(bfs nx s n).Nodup
 | 0=>by simp[bfs]
 | n+1=>by
  cases e:(bfs nx s n)[n]? with
  | none=>rw[fg e];exact dq n
  | some h=>rw[d9 e];exact eN _ _ (dq n)
theorem dj:∀n x,x∈bfs nx s n->Reach nx s x
 | 0,x,h=>by
  have:x=s:=by simpa[bfs] using h
  subst this;exact .start
 | n+1,x,hx=>by
  cases e:(bfs nx s n)[n]? with
  | none=>rw[fg e]at hx;exact dj n x hx
  | some h =>
  rw[d9 e]at hx;rcases(eO _ _ _).mp hx with q|q
  ·exact dj n x q
  exact .step (dj n h (Qk e)) q
theorem oj (n:Nat):(bfs nx s n)[0]?=some s:=ii (by have:=iq (nx:=nx) (s:=s) 0 n;rwa [Nat.zero_add]at this) rfl
theorem tq (n:Nat):s∈bfs nx s n:=Qk (oj n)
theorem p8 {i:Nat} {h:κ} (hi:i<n) (e:(bfs nx s n)[i]?=some h):∀k∈nx h,k∈bfs nx s n:=by
 have h1:bfs nx s i <+: bfs nx s n:=by
  have:=iq (nx:=nx) (s:=s) i (n-i);rwa [Nat.add_sub_cancel' (X7 hi)]at this
 have h2:bfs nx s (i+1) <+: bfs nx s n:=by
  have:=iq (nx:=nx) (s:=s) (i+1) (n-(i+1));rwa [Nat.add_sub_cancel' hi]at this
 intro k hk
 cases q:(bfs nx s i)[i]? with
 | some h' =>
  have:some h'=some h:=(ii h1 q).symm.trans e;cases this;refine h2.subset ?_;rw[d9 q];exact(eO _ _ _).mpr (.inr hk)
 | none =>
 -- then nothing is added any more
 exfalso
 have stay:∀m,bfs nx s (i+m)=bfs nx s i:=by
  intro m
  induction m with
  | zero=>rfl
  | succ m ih =>
  have:(bfs nx s (i+m))[i+m]?=none:=by
   rw[ih];exact QY (QJ (List.getElem?_eq_none_iff.mp q) (QQ i m))
  exact(fg this).trans ih
 have:=stay (n-i);rw[Nat.add_sub_cancel' (X7 hi)]at this;rw[this,q]at e;cases e
theorem xC (hn:(bfs nx s n).length<=n) (x:κ):x∈bfs nx s n↔Reach nx s x:=by
 refine⟨dj n x,λr=>?_⟩
 induction r with
 | start=>exact tq n
 | step r hb ih =>
 obtain⟨i,hi,e⟩:=List.mem_iff_getElem.mp ih;exact p8 (i:=i) (by omega) (by rw[Qe hi,e]) _ hb
theorem fX:∀(ks w:List κ) (j:Nat) (x:κ),w.length<=j->(a_ w ks)[j]?=some x->x∈ks
 | [],w,j,x,hj,e=>by
  have:w[j]?=some x:=e;rw[QY hj]at this;cases this
 | k::ks,w,j,x,hj,e=>by
  unfold a_ at e
  split at e
  ·exact Qn _ (fX ks w j x hj e)
  by_cases c:j=w.length
  ·subst c;have:=iL (cP ks (w++[k])) (i:=w.length) (by simp) e;rw[QK (Qg _)]at this;simp at this;exact this▸Xp
  exact Qn _ (fX ks (w++[k]) j x (by simp;omega) e)
theorem jm:∀(n j:Nat) (x:κ),0<j->(bfs nx s n)[j]?=some x->∃i h,i<j/\i<n/\(bfs nx s n)[i]?=some h/\x∈nx h
 | 0,j,x,hj,e=>by
  have:([s]:List κ)[j]?=some x:=e;rw[QY (by simp;omega)]at this;cases this
 | n+1,j,x,hj,e=>by
  cases q:(bfs nx s n)[n]? with
  | none =>
   rw[fg q]at e ⊢;obtain⟨i,h,h1,h2,h3,h4⟩:=jm n j x hj e;exact⟨i,h,h1,by omega,h3,h4⟩
  | some h =>
  rw[d9 q]at e ⊢;by_cases c:j<(bfs nx s n).length
  ·have e':=iL (cP (nx h) (bfs nx s n)) c e;obtain⟨i,h',h1,h2,h3,h4⟩:=jm n j x hj e';exact⟨i,h',h1,by omega,ii (cP _ _) h3,h4⟩
  have hn:n<(bfs nx s n).length:=(Qd.mp q).1;exact⟨n,h,by omega,by omega,ii (cP _ _) q,fX _ _ j x (by omega) e⟩
theorem pigeon:∀(xs ys:List κ),xs.Nodup->(∀x∈xs,x∈ys)->xs.length<=ys.length
 | [],_,_,_=>QR _
 | x::xs,ys,nd,h=>by
  rw[QU]at nd;have hx:x∈ys:=h x Xp;have:=pigeon xs (ys.erase x) nd.2 λy hy=>(List.mem_erase_of_ne (λz:y=x=>nd.1 (by rw[<-z];exact hy))).mpr (h y (Qn _ hy));rw[List.length_erase_of_mem hx]at this;have:0<ys.length:=List.length_pos_of_mem hx;simp only[XA];omega
end
end Bf
namespace L2
open PySem PySem.Spec PyProof.Rows
section
variable {X:Cx}
def yS:V->List V->Hp->VK->Prop:=λx vs H Q=>∃(l:Addr) (xs:List Str) (y:Str) (j:Nat),x=.ref l/\vs=[.str y]/\H l=some (.lst (xs.map V.str))/\xs[j]?=some y/\(∀m,m<j->xs[m]?≠some y)/\xs.length<=100000/\Q (.int j) H
theorem gi:MtR X "list.index" yS:=by
 intro pins s U H x vs v us Q I rx rv h;obtain⟨l,xs,y,j,rfl,rfl,hH,hj,hno,hz,q⟩:=h;cases rx;obtain⟨u,rfl,t,rfl⟩:=cZ rv;obtain⟨z,its,n,r,hl,e⟩:=I.lstM hH;have sa:=eA r;have hlen:its.length=xs.length:=by rw[<-hl,Qb]
 have hjl:j<xs.length:=(Qd.mp hj).1
 have at':∀m (hm:m<its.toArray.size),isStrOf y its.toArray[m]=(xs[m]'(by rw[Ql]at hm;exact uQ hlen hm)==y):=λm hm=>by
  rw[Ql]at hm;obtain⟨u,hu,ru⟩:=r.get (i:=m) (show (xs.map V.str)[m]?=some (.str (xs[m]'(by exact uQ hlen hm))) from by rw[Qp,Qe (by exact uQ hlen hm)];rfl);obtain⟨tu,eu⟩:=ru;subst eu
  have e2:its.toArray[m]=.str (xs[m]'(by exact uQ hlen hm)) tu:=by
   have:=(Qd.mp hu).2;simpa using this
  rw[e2];rfl
 refine call_meets F.slot_list_index ⟨_,e,rfl⟩ F.entry_list_index (F.args_list_index_2 _ _) (MeetsSeq.list_index l its.toArray n (.str y t) (isStrOf y) (λv hv=>eq_isStrOf y t sa v (by simpa using hv)) j (by rw[Ql];exact uR hlen hjl) (by omega) ?_ (λm hm hmj=>?_)) ⟨e,?_⟩
 ·rw[at' j (by rw[Ql];exact uR hlen hjl)];have:=(Qd.mp hj).2;rw[this];simp
 ·rw[at' m hm];rw[Ql]at hm;have h1:=hno m hmj;rw[Qe (by exact uQ hlen hm)]at h1;simpa using h1
 exact⟨.int j,H,I.tok _,⟨_,rfl⟩,q⟩
end
section
variable {X:Cx}
end
section
variable {X:Cx}
def qO (T:Addr):R2:=λx y H Q=>x=.ref T/\((y=.str "0" /\ Q (.str "1") H)\/(y=.str "1" /\ Q (.str "0") H))
theorem xf {T:Addr} (hT:ix X.K T [("0", .flat (.str "1")),("1", .flat (.str "0"))]):IxR X (qO T):=by
 intro value slice pins s U H x y v u Q I rx ry h hs;obtain⟨e1,h⟩:=h;subst e1;cases rx;have here:KTD.Here X.base s.heap T [("0", .flat (.str "1")),("1", .flat (.str "0"))]:=⟨KTD.text_of_look (get:=λa=>X.K.lookup a) (λa o e=>I.mod.kin a o e) hT,I.bk⟩;rcases h with⟨e,q⟩|⟨e,q⟩
 ·subst e;obtain⟨t,e⟩:=ry;subst e;refine KTD.item_textA here (by rfl) (by decide +kernel) ?_ hs;have e:decide (("0" : Str) = "0")=true:=by decide +kernel
  simp only[KTD.EachL,e,if_true];exact λt=>⟨.str "1", H,I.tok _,⟨_,rfl⟩,q⟩
 subst e;obtain⟨t,e⟩:=ry;subst e;refine KTD.item_textA here (by rfl) (by decide +kernel) ?_ hs;have e:decide (("1" : Str) = "0")=false:=by decide +kernel
 simp only[KTD.EachL,e,QG,XD];exact λ_ t=>⟨.str "0", H,I.tok _,⟨_,rfl⟩,q⟩
end
end L2
set_option maxHeartbeats 1000000
namespace Ks
open PySem PyProof.Rows PySem.W
def ev {α:Type} (c:Nat->Nat->Bool):KasT α->α
 | .ret a=>a
 | .ask i j k=>ev c (k (c i j))
theorem fA {α β:Type} (c:Nat->Nat->Bool) (f:α->KasT β):∀t:KasT α,ev c (t.bind f)=ev c (f (ev c t))
 | .ret _=>rfl
 | .ask i j k=>fA c f (k (c i j))
def Low {α:Type} (N:Nat):KasT α->Prop
 | .ret _=>True
 | .ask i j k=>i<N/\j<N/\∀b,Low N (k b)
theorem wp_of {α:Type} {N:Nat} {c:Nat->Nat->Bool} {cmp:Nat->Nat->(Bool->Shared->Prop)->Shared->Prop} {G:α->Shared->Prop} {s:Shared} (hc:∀i j,i<N->j<N->∀C:Bool->Shared->Prop,C (c i j) s->cmp i j C s) :
  ∀t:KasT α,Low N t->G (ev c t) s->t.kasWp cmp G s
 | .ret _,_,g=>g
 | .ask i j k,l,g=>hc i j l.1 l.2.1 _ (wp_of hc (k (c i j)) (l.2.2 _) g)
variable {N:Nat}
theorem Low.bind {α β:Type} {f:α->KasT β}:∀{t:KasT α},Low N t->(∀a,Low N (f a))->Low N (t.bind f)
 | .ret a,_,h=>h a
 | .ask i j k,l,h=>⟨l.1,l.2.1,λb=>Low.bind (l.2.2 b) h⟩
def Out {α:Type} (P:α->Prop):KasT α->Prop
 | .ret a=>P a
 | .ask _ _ k=>∀b,Out P (k b)
theorem Low.bindO {α β:Type} {P:α->Prop} {f:α->KasT β}:∀{t:KasT α},Low N t->Out P t->(∀a,P a->Low N (f a))->Low N (t.bind f)
 | .ret a,_,o,h=>h a o
 | .ask i j k,l,o,h=>⟨l.1,l.2.1,λb=>Low.bindO (l.2.2 b) (o b) h⟩
def Lt (N:Nat) (p:Array Nat):Prop:=∀x∈p.toList,x<N
theorem Lt.get {p:Array Nat} (h:Lt N p) (h0:0<N) (i:Nat):p.getD i 0<N:=by
 by_cases c:i<p.size
 ·have e:p.getD i 0=p[i]:=by simp[Array.getD,c]
  rw[e];exact h _ (Array.getElem_mem_toList c)
 have e:p.getD i 0=0:=by simp[Array.getD,c]
 rw[e];exact h0
theorem Lt.perm {p q:Array Nat} (h:Lt N p) (e:q.Perm p):Lt N q:=λx hx=>h x ((Array.perm_iff_toList_perm.mp e).mem_iff.mp hx)
section
variable {N:Nat} (h0:0<N)
include h0
theorem lg {p:Array Nat} (h:Lt N p):∀f n,Low N (kas_asc p f n)
 | 0,_=>trivial
 | f+1,n=>⟨h.get h0 _,h.get h0 _,λb=>by
   cases b with
   | true=>exact trivial
   | false=>exact lg h f (n+1)⟩
theorem gk:∀f (p:Array Nat) n q,Lt N p->Low N (kas_desc f p n q)/\Out (λr=>Lt N r.1) (kas_desc f p n q)
 | 0,p,n,q,h=>⟨trivial,h⟩
 | f+1,p,n,q,h=>by
  have a1:=gk f p (n+1) 0 h;have a2:=gk f _ (n+1) 0 (h.perm (mirror_perm p (n-(q+1)) n ((n-(n-(q+1))) / 2)));have a3:=gk f p (n+1) (q+1) h
  have hz:∀b,Low N (if b=true then (if q>0 then kas_desc f (kas_rev p (n-(q+1)) n) (n+1) 0 else kas_desc f p (n+1) 0) else KasT.ask (p.getD (n-1) 0) (p.getD n 0) λd=>if d=true then .ret (p,n,q) else kas_desc f p (n+1) (q+1)) /\
    Out (λr=>Lt N r.1) (if b=true then (if q>0 then kas_desc f (kas_rev p (n-(q+1)) n) (n+1) 0 else kas_desc f p (n+1) 0) else KasT.ask (p.getD (n-1) 0) (p.getD n 0) λd=>if d=true then .ret (p,n,q) else kas_desc f p (n+1) (q+1)):=λb=>by
   cases b with
   | true =>
    rw[Qs rfl];by_cases c:q>0
    ·rw[Qs c];exact a2
    rw[Qo c];exact a1
   | false =>
   rw[Qo Qr];refine⟨⟨h.get h0 _,h.get h0 _,λd=>?_⟩,λd=>?_⟩
   ·cases d with
    | true=>exact trivial
    | false=>exact a3.1
   cases d with
   | true=>exact h
   | false=>exact a3.2
  exact⟨⟨h.get h0 _,h.get h0 _,λb=>(hz b).1⟩,λb=>(hz b).2⟩
theorem j0 {p:Array Nat} (h:Lt N p) (n nrem:Nat):Low N (kas_tail3 n nrem p)/\Out (λr=>Lt N r.2) (kas_tail3 n nrem p):=by
 have h':Lt N (kas_rev p 0 n):=h.perm (mirror_perm ..)
 have out:∀{t:KasT Nat},Out (λr:Nat × Array Nat=>Lt N r.2) (t.bind λm=>.ret (m,kas_rev p 0 n)):=by
  intro t
  induction t with
  | ret a=>exact h'
  | ask i j k ih=>exact λb=>ih b
 exact⟨(lg h0 h' _ _).bind λ_=>trivial,out⟩
theorem Out.bind {α β:Type} {P:α->Prop} {P':β->Prop} {f:α->KasT β}:∀{t:KasT α},Out P t->(∀a,P a->Out P' (f a))->Out P' (t.bind f)
 | .ret a,o,h=>h a o
 | .ask i j k,o,h=>λb=>Out.bind (o b) h
theorem nk {p:Array Nat} (h:Lt N p) (n nrem:Nat):Low N (kas_descPart n nrem p)/\Out (λr=>Lt N r.2) (kas_descPart n nrem p):=by
 have d:=gk h0 (nrem-(n+1)) p (n+1) 0 h
 have z:∀r:Array Nat × Nat × Nat,Lt N r.1->Low N (if r.2.2>0 then kas_tail3 r.2.1 nrem (kas_rev r.1 (r.2.1-(r.2.2+1)) r.2.1) else kas_tail3 r.2.1 nrem r.1)/\Out (λr=>Lt N r.2) (if r.2.2>0 then kas_tail3 r.2.1 nrem (kas_rev r.1 (r.2.1-(r.2.2+1)) r.2.1) else kas_tail3 r.2.1 nrem r.1):=λr hr=>by
  split
  ·exact j0 h0 (hr.perm (mirror_perm ..)) _ _
  exact j0 h0 hr _ _
 exact⟨d.1.bindO d.2 λr hr=>(z r hr).1,Out.bind h0 d.2 λr hr=>(z r hr).2⟩
theorem sI {p:Array Nat} (h:Lt N p) (nrem:Nat):Low N (kas_count nrem p)/\Out (λr=>Lt N r.2) (kas_count nrem p):=by
 have z:∀n:Nat,Low N (if (n==nrem)=true then KasT.ret (n,p) else if n>1 then .ask (p.getD 0 0) (p.getD (n-1) 0) λc=>if c=true then .ret (n,p) else kas_descPart n nrem (kas_rev p 0 n) else kas_descPart n nrem p) /\
   Out (λr=>Lt N r.2) (if (n==nrem)=true then KasT.ret (n,p) else if n>1 then .ask (p.getD 0 0) (p.getD (n-1) 0) λc=>if c=true then .ret (n,p) else kas_descPart n nrem (kas_rev p 0 n) else kas_descPart n nrem p):=λn=>by
  split
  ·exact⟨trivial,h⟩
  split
  ·have q:=nk h0 (h.perm (mirror_perm p 0 n ((n-0) / 2))) n nrem;refine⟨⟨h.get h0 _,h.get h0 _,λb=>?_⟩,λb=>?_⟩
   ·cases b with
    | true=>exact trivial
    | false=>exact q.1
   cases b with
   | true=>exact h
   | false=>exact q.2
  exact nk h0 h n nrem
 have all:∀{t:KasT Nat},Out (λ_=>True) t:=by
  intro t
  induction t with
  | ret a=>exact trivial
  | ask i j k ih=>exact λb=>ih b
 exact⟨(lg h0 h _ _).bind λn=>(z n).1,Out.bind h0 all λn _=>(z n).2⟩
theorem gQ {p:Array Nat} (h:Lt N p) (k:Nat):∀f l r,Low N (kas_place p k f l r)
 | 0,_,_=>trivial
 | f+1,l,r=>by
  unfold kas_place
  split
  ·exact trivial
  refine⟨h.get h0 _,h.get h0 _,λb=>?_⟩
  cases b with
  | true=>exact gQ h k f _ _
  | false=>exact gQ h k f _ _
theorem rc:∀f (p:Array Nat) k,Lt N p->Low N (kas_bin f p k)
 | 0,_,_,_=>trivial
 | f+1,p,k,h=>(gQ h0 h k k 0 k).bind λl=>rc f _ _ (h.perm (bubble_perm ..))
theorem low_sort:Low N (kas_sort N):=by
 have h:Lt N (List.range N).toArray:=λx hx=>by simpa using hx
 have q:=sI h0 h N;refine q.1.bindO q.2 λr hr=>?_
 split
 ·exact rc h0 _ _ _ hr
 exact trivial
end
section
variable {O:KeyOrd} {K:Nat->O.α}
def at_ (K:Nat->O.α) (p:Array Nat) (i:Nat):O.α:=K (p.getD i 0)
def Up (K:Nat->O.α) (p:Array Nat) (m:Nat):Prop:=∀i j,i<=j->j<m->O.kle (at_ K p i) (at_ K p j)
def Dn (K:Nat->O.α) (p:Array Nat) (m:Nat):Prop:=∀i j,i<=j->j<m->O.kle (at_ K p j) (at_ K p i)
abbrev cb (K:Nat->O.α) (i j:Nat):Bool:=O.blt (K i) (K j)
theorem Up.one (p:Array Nat):Up K p 1:=λi j h1 h2=>by
 obtain rfl:j=0:=by omega
 obtain rfl:i=0:=by omega
 exact O.irrefl _
variable {n i j N:Nat}
theorem Up.more {p:Array Nat} (u:Up K p n) (h1:1<=n) (h:O.kle (at_ K p (n-1)) (at_ K p n)):Up K p (n+1):=λi j h2 h3=>by
 by_cases e:j=n
 ·subst e;by_cases e2:i=j
  ·subst e2;exact O.irrefl _
  exact KeyOrd.kle_trans (u i (j-1) (by omega) (by omega)) h
 exact u i j h2 (by omega)
theorem Dn.more {p:Array Nat} (u:Dn K p n) (h1:1<=n) (h:O.kle (at_ K p n) (at_ K p (n-1))):Dn K p (n+1):=λi j h2 h3=>by
 by_cases e:j=n
 ·subst e;by_cases e2:i=j
  ·subst e2;exact O.irrefl _
  exact KeyOrd.kle_trans h (u i (j-1) (by omega) (by omega))
 exact u i j h2 (by omega)
theorem zM {p:Array Nat}:∀f n,1<=n->Up K p n->Up K p (ev (cb K) (kas_asc p f n))/\n<=ev (cb K) (kas_asc p f n)/\ev (cb K) (kas_asc p f n)<=n+f /\
  (ev (cb K) (kas_asc p f n)<n+f->O.klt (at_ K p (ev (cb K) (kas_asc p f n))) (at_ K p (ev (cb K) (kas_asc p f n)-1)))
 | 0,n,_,u=>⟨u,Qg _,Qg _,λh=>absurd h (Zb _)⟩
 | f+1,n,h1,u=>by
  have st:ev (cb K) (kas_asc p (f+1) n)=ev (cb K) (if cb K (p.getD n 0) (p.getD (n-1) 0)=true then KasT.ret n else kas_asc p f (n+1)):=rfl;rw[st];clear st
  cases c:cb K (p.getD n 0) (p.getD (n-1) 0) with
  | true=>exact⟨u,Qg _,by show n<=n+(f+1);omega,λ_=>c⟩
  | false =>
  rw[Qo Qr];obtain⟨a1,a2,a3,a4⟩:=zM f (n+1) (by omega) (u.more h1 c);exact⟨a1,by omega,by omega,λh=>a4 (by omega)⟩
theorem rm (p:Array Nat) (hj:j<=p.size) (k:Nat):(kas_rev p i j).getD k 0=if (i<=k/\k<i+(j-i) / 2)\/(j-(j-i) / 2<=k/\k<j) then p.getD (i+j-1-k) 0 else p.getD k 0:=by
 have q:=getElem?_mirror (xs:=p) (i:=i) (j:=j) hj ((j-i) / 2) (by omega) k;unfold kas_rev;rw[Xe,q]
 split
 ·rw[Xe]
 rw[Xe]
theorem qK {p:Array Nat} (hj:n<=p.size) {k:Nat} (hk:k<n):at_ K (kas_rev p 0 n) k=at_ K p (n-1-k):=by
 unfold at_;rw[rm p hj]
 split
 ·rw[Nat.zero_add]
 rename_i h
 have:n-1-k=k:=by omega
 rw[this]
theorem iJ {p:Array Nat} {a n:Nat} (hj:n<=p.size) (h:∀i,a<=i->i<n->at_ K p i=at_ K p (n-1)) (k:Nat):at_ K (kas_rev p a n) k=at_ K p k:=by
 unfold at_;rw[rm p hj]
 split
 ·rename_i c
  show at_ K p _=at_ K p _;rw[h (a+n-1-k) (by omega) (by omega),h k (by omega) (by omega)]
 rfl
theorem Dn.up {p:Array Nat} (hj:n<=p.size) (d:Dn K p n):Up K (kas_rev p 0 n) n:=λi j h1 h2=>by
 rw[qK hj (by omega),qK hj h2];exact d _ _ (by omega) (by omega)
theorem Dn.congr {p q:Array Nat} (d:Dn K p n) (h:∀k,at_ K q k=at_ K p k):Dn K q n:=λi j h1 h2=>by rw[h,h];exact d i j h1 h2
def Seg (K:Nat->O.α) (p:Array Nat) (n q:Nat):Prop:=∀i,n-(q+1)<=i->i<n->at_ K p i=at_ K p (n-1)
theorem Seg.zero (p:Array Nat) (n:Nat):Seg K p n 0:=λi h1 h2=>by rw[show i=n-1 by omega]
theorem rC:∀f (p:Array Nat) n q,1<=n->Dn K p n->q+1<=n->Seg K p n q->n+f<=p.size ->
  (ev (cb K) (kas_desc f p n q)).1.Perm p/\Dn K (ev (cb K) (kas_desc f p n q)).1 (ev (cb K) (kas_desc f p n q)).2.1/\n<=(ev (cb K) (kas_desc f p n q)).2.1/\(ev (cb K) (kas_desc f p n q)).2.1<=n+f/\(ev (cb K) (kas_desc f p n q)).2.2+1<=(ev (cb K) (kas_desc f p n q)).2.1/\Seg K (ev (cb K) (kas_desc f p n q)).1 (ev (cb K) (kas_desc f p n q)).2.1 (ev (cb K) (kas_desc f p n q)).2.2
 | 0,p,n,q,h1,d,hq,sg,hz=>⟨.refl _,d,Qg _,Qg _,hq,sg⟩
 | f+1,p,n,q,h1,d,hq,sg,hz=>by
  have st:ev (cb K) (kas_desc (f+1) p n q)=ev (cb K) (if cb K (p.getD n 0) (p.getD (n-1) 0)=true then (if q>0 then kas_desc f (kas_rev p (n-(q+1)) n) (n+1) 0 else kas_desc f p (n+1) 0) else .ask (p.getD (n-1) 0) (p.getD n 0) λd=>if d=true then .ret (p,n,q) else kas_desc f p (n+1) (q+1)):=by
   conv=>lhs;unfold kas_desc
   rfl
  rw[st];clear st
  cases c:cb K (p.getD n 0) (p.getD (n-1) 0) with
  | true =>
   rw[Qs rfl];have k1:O.kle (at_ K p n) (at_ K p (n-1)):=KeyOrd.klt_asymm c;by_cases q0:q>0
   ·rw[Qs q0];have e:=iJ (K:=K) (p:=p) (a:=n-(q+1)) (n:=n) (by omega) sg;obtain⟨a1,a2,a3,a4,a5,a6⟩:=rC f (kas_rev p (n-(q+1)) n) (n+1) 0 (by omega) ((d.more h1 k1).congr e) (by omega) (.zero _ _) (by rw[kas_rev,mirror_size];omega);exact⟨a1.trans (mirror_perm ..),a2,by omega,by omega,a5,a6⟩
   rw[Qo q0];obtain⟨a1,a2,a3,a4,a5,a6⟩:=rC f p (n+1) 0 (by omega) (d.more h1 k1) (by omega) (.zero _ _) (by omega);exact⟨a1,a2,by omega,by omega,a5,a6⟩
  | false =>
  rw[Qo Qr];have st:ev (cb K) (KasT.ask (p.getD (n-1) 0) (p.getD n 0) λd=>if d=true then .ret (p,n,q) else kas_desc f p (n+1) (q+1))=ev (cb K) (if cb K (p.getD (n-1) 0) (p.getD n 0)=true then .ret (p,n,q) else kas_desc f p (n+1) (q+1)):=rfl;rw[st];clear st
  cases c2:cb K (p.getD (n-1) 0) (p.getD n 0) with
  | true =>
   rw[Qs rfl];exact⟨.refl _,d,Qg _,QQ _ _,hq,sg⟩
  | false =>
  rw[Qo Qr];have e:at_ K p n=at_ K p (n-1):=O.total _ _ c c2
  obtain⟨a1,a2,a3,a4,a5,a6⟩:=rC f p (n+1) (q+1) (by omega) (d.more h1 (by rw[e];exact O.irrefl _)) (by omega) (λi g1 g2=>by
   rw[Nat.add_sub_cancel];by_cases z:i=n
   ·rw[z]
   rw[e];exact sg i (by omega) (by omega)) (by omega)
  exact⟨a1,a2,by omega,by omega,a5,a6⟩
theorem tM {p:Array Nat} {n nrem:Nat} (h1:1<=n) (hn:n<=nrem) (hz:nrem<=p.size) (d:Dn K p n) :
  (ev (cb K) (kas_tail3 n nrem p)).2.Perm p/\Up K (ev (cb K) (kas_tail3 n nrem p)).2 (ev (cb K) (kas_tail3 n nrem p)).1/\1<=(ev (cb K) (kas_tail3 n nrem p)).1/\(ev (cb K) (kas_tail3 n nrem p)).1<=nrem:=by
 unfold kas_tail3;rw[fA];obtain⟨a1,a2,a3,_⟩:=zM (K:=K) (nrem-n) n h1 (d.up (by omega));exact⟨mirror_perm ..,a1,by show 1<=ev _ _;omega,by show ev _ _<=nrem;omega⟩
theorem yg {p:Array Nat} {n nrem:Nat} (h1:1<=n) (hn:n+1<=nrem) (hz:nrem<=p.size) (d:Dn K p (n+1)) :
  (ev (cb K) (kas_descPart n nrem p)).2.Perm p/\Up K (ev (cb K) (kas_descPart n nrem p)).2 (ev (cb K) (kas_descPart n nrem p)).1/\1<=(ev (cb K) (kas_descPart n nrem p)).1/\(ev (cb K) (kas_descPart n nrem p)).1<=nrem:=by
 unfold kas_descPart;rw[fA];obtain⟨a1,a2,a3,a4,a5,a6⟩:=rC (K:=K) (nrem-(n+1)) p (n+1) 0 (by omega) d (by omega) (.zero _ _) (by omega);have sz:=a1.size_eq;generalize ev (cb K) (kas_desc (nrem-(n+1)) p (n+1) 0)=r at *;obtain⟨p',m,q⟩:=r;dsimp only at *
 split
 ·have e:=iJ (K:=K) (p:=p') (a:=m-(q+1)) (n:=m) (by omega) a6;obtain⟨b1,b2,b3,b4⟩:=tM (K:=K) (p:=kas_rev p' (m-(q+1)) m) (n:=m) (nrem:=nrem) (by omega) (by omega) (by rw[kas_rev,mirror_size];omega) (a2.congr e);exact⟨b1.trans ((mirror_perm ..).trans a1),b2,b3,b4⟩
 obtain⟨b1,b2,b3,b4⟩:=tM (K:=K) (p:=p') (n:=m) (nrem:=nrem) (by omega) (by omega) (by omega) a2;exact⟨b1.trans a1,b2,b3,b4⟩
theorem zJ {p:Array Nat} {nrem:Nat} (h1:1<=nrem) (hz:nrem<=p.size) :
  (ev (cb K) (kas_count nrem p)).2.Perm p/\Up K (ev (cb K) (kas_count nrem p)).2 (ev (cb K) (kas_count nrem p)).1/\1<=(ev (cb K) (kas_count nrem p)).1/\(ev (cb K) (kas_count nrem p)).1<=nrem:=by
 unfold kas_count;rw[fA];obtain⟨a1,a2,a3,a4⟩:=zM (K:=K) (p:=p) (nrem-1) 1 (Qg _) (.one p);generalize ev (cb K) (kas_asc p (nrem-1) 1)=n at *
 split
 ·exact⟨.refl _,a1,a2,by show n<=nrem;omega⟩
 rename_i c
 have c:n≠nrem:=by simpa using c
 have lt:=a4 (by omega)
 split
 ·have st:ev (cb K) (KasT.ask (p.getD 0 0) (p.getD (n-1) 0) λc=>if c=true then .ret (n,p) else kas_descPart n nrem (kas_rev p 0 n))=ev (cb K) (if cb K (p.getD 0 0) (p.getD (n-1) 0)=true then .ret (n,p) else kas_descPart n nrem (kas_rev p 0 n)):=rfl;rw[st];clear st
  cases c2:cb K (p.getD 0 0) (p.getD (n-1) 0) with
  | true=>rw[Qs rfl];exact⟨.refl _,a1,a2,by show n<=nrem;omega⟩
  | false =>
  rw[Qo Qr]
  have eq0:∀i,i<n->at_ K p i=at_ K p (n-1):=λi hi=>by
   have k1:O.kle (at_ K p i) (at_ K p (n-1)):=a1 i (n-1) (by omega) (by omega);have k2:O.kle (at_ K p (n-1)) (at_ K p 0):=c2;exact KeyOrd.kle_antisymm k1 (KeyOrd.kle_trans k2 (a1 0 i (by omega) hi))
  have e:=iJ (K:=K) (p:=p) (a:=0) (n:=n) (by omega) (λi _ h=>eq0 i h);have d:Dn K (kas_rev p 0 n) (n+1):=Dn.congr (p:=p) (Dn.more (λi j g1 g2=>by rw[eq0 i (by omega),eq0 j g2];exact O.irrefl _) a2 (KeyOrd.klt_asymm lt)) e;obtain⟨b1,b2,b3,b4⟩:=yg (K:=K) (p:=kas_rev p 0 n) (n:=n) (nrem:=nrem) a2 (by omega) (by rw[kas_rev,mirror_size];omega) d;exact⟨b1.trans (mirror_perm ..),b2,b3,b4⟩
 obtain rfl:n=1:=by omega
 exact yg (K:=K) (Qg _) (by omega) hz (Dn.more (λi j g1 g2=>by rw[show i=j by omega];exact O.irrefl _) (Qg _) (KeyOrd.klt_asymm lt))
theorem o0 {p:Array Nat} {k:Nat} (u:Up K p k):∀f l r,l<=r->r<=k->r-l<=f->(∀i,i<l->O.kle (at_ K p i) (at_ K p k))->(∀i,r<=i->i<k->O.klt (at_ K p k) (at_ K p i)) ->
  ev (cb K) (kas_place p k f l r)<=k/\(∀i,i<ev (cb K) (kas_place p k f l r)->O.kle (at_ K p i) (at_ K p k))/\∀i,ev (cb K) (kas_place p k f l r)<=i->i<k->O.klt (at_ K p k) (at_ K p i)
 | 0,l,r,h1,h2,h3,b1,b2=>by
  obtain rfl:l=r:=by omega
  exact⟨h2,b1,b2⟩
 | f+1,l,r,h1,h2,h3,b1,b2=>by
  unfold kas_place;by_cases c:l>=r
  ·rw[Qs c];obtain rfl:l=r:=by omega
   exact⟨h2,b1,b2⟩
  rw[Qo c];have st:ev (cb K) (KasT.ask (p.getD k 0) (p.getD ((l+r) / 2) 0) λc=>if c=true then kas_place p k f l ((l+r) / 2) else kas_place p k f ((l+r) / 2+1) r)=ev (cb K) (if cb K (p.getD k 0) (p.getD ((l+r) / 2) 0)=true then kas_place p k f l ((l+r) / 2) else kas_place p k f ((l+r) / 2+1) r):=rfl;rw[st];clear st
  cases c2:cb K (p.getD k 0) (p.getD ((l+r) / 2) 0) with
  | true =>
   rw[Qs rfl];exact o0 u f l ((l+r) / 2) (by omega) (by omega) (by omega) b1 λi g1 g2=>KeyOrd.klt_of_klt_of_kle c2 (u _ _ g1 g2)
  | false =>
  rw[Qo Qr];exact o0 u f ((l+r) / 2+1) r (by omega) (by omega) (by omega) (λi g=>KeyOrd.kle_trans (u i ((l+r) / 2) (by omega) (by omega)) c2) b2
theorem xt {p:Array Nat} {k d:Nat} (hk:k<p.size) (hd:d<=k) (i:Nat):at_ K (bubble p k d) i=if i=k-d then at_ K p k else if k-d<i/\i<=k then at_ K p (i-1) else at_ K p i:=by
 have q:=getElem?_bubble (xs:=p) hk d hd i;have e:∀j,at_ K p j=K (p[j]?.getD 0):=λj=>by rw[at_,Xe]
 rw[e,e,e,at_,Xe,q];by_cases c1:i=k-d
 ·rw[Qs c1,Qs c1]
 rw[Qo c1,Qo c1];by_cases c2:k-d<i/\i<=k
 ·rw[Qs c2,Qs c2]
 rw[Qo c2,Qo c2]
theorem A0:∀f (p:Array Nat) k,Up K p k->k+f<=p.size->(ev (cb K) (kas_bin f p k)).Perm p/\Up K (ev (cb K) (kas_bin f p k)) (k+f)
 | 0,p,k,u,_=>⟨.refl _,u⟩
 | f+1,p,k,u,hz=>by
  unfold kas_bin;rw[fA];obtain⟨a1,a2,a3⟩:=o0 (K:=K) u k 0 k (QR _) (Qg _) (by omega) (λi h=>absurd h (X8 _)) (λi g1 g2=>absurd g2 (by omega));generalize ev (cb K) (kas_place p k k 0 k)=l at *;have gb:=xt (K:=K) (p:=p) (k:=k) (d:=k-l) (by omega) (by omega);have el:k-(k-l)=l:=by omega
  rw[el]at gb
  have u':Up K (bubble p k (k-l)) (k+1):=λi j g1 g2=>by
   rw[gb i,gb j];by_cases i1:i=l
   ·rw[Qs i1];by_cases j1:j=l
    ·rw[Qs j1];exact O.irrefl _
    rw[Qo j1,Qs ⟨by omega,by omega⟩];exact KeyOrd.klt_asymm (a3 _ (by omega) (by omega))
   rw[Qo i1];by_cases i2:l<i/\i<=k
   ·rw[Qs i2,Qo (by omega),Qs ⟨by omega,by omega⟩];exact u _ _ (by omega) (by omega)
   rw[Qo i2];by_cases j1:j=l
   ·rw[Qs j1];exact a2 i (by omega)
   rw[Qo j1];by_cases j2:l<j/\j<=k
   ·rw[Qs j2];exact u _ _ (by omega) (by omega)
   rw[Qo j2];exact u _ _ g1 (by omega)
  obtain⟨b1,b2⟩:=A0 f (bubble p k (k-l)) (k+1) u' (by rw[bubble_size];omega);exact⟨b1.trans (bubble_perm ..),by rw[show k+(f+1)=k+1+f by omega];exact b2⟩
theorem sort_ (h0:0<N):(ev (cb K) (kas_sort N)).Perm (List.range N).toArray/\Up K (ev (cb K) (kas_sort N)) N:=by
 unfold kas_sort;rw[fA];obtain⟨a1,a2,a3,a4⟩:=zJ (K:=K) (p:=(List.range N).toArray) (nrem:=N) h0 (by simp);have sz:(ev (cb K) (kas_count N (List.range N).toArray)).2.size=N:=by rw[a1.size_eq];simp
 generalize ev (cb K) (kas_count N (List.range N).toArray)=r at *
 split
 ·have e:max r.1 1=r.1:=Nat.max_eq_left a3;rw[e];obtain⟨b1,b2⟩:=A0 (K:=K) (N-r.1) r.2 r.1 a2 (by omega);exact⟨b1.trans a1,by rw[show r.1+(N-r.1)=N by omega]at b2;exact b2⟩
 exact⟨a1,by rw[show N=r.1 by omega];exact a2⟩
end
end Ks
namespace Tm
open PySem PySem.Spec PyProof.Rows
def A6 (κ:PyProof.Rows.KeyKind) (kd:SortKind) (prog:Program) (w:World) (A:Around) (s:Shared):Prop :=
 ∀(E:B0) (x y:Value) (a b:κ.α) (Q:Bool->Shared->Prop),κ.keyOf x=some a->κ.keyOf y=some b->Q (κ.blt a b) s->wpAny (model prog w) A (keyLt' kd x y) Q E s
def kv (κ:PyProof.Rows.KeyKind) (p:Keyed):κ.α:=(κ.keyOf p.1).getD κ.dflt
def le (κ:PyProof.Rows.KeyKind) (p q:Keyed):Prop:=κ.kle (kv κ p) (kv κ q)
def leV (κ:PyProof.Rows.KeyKind) (u v:Value):Prop:=le κ (u,u) (v,v)
section
variable {prog:Program} {w:World} {A:Around} {E:B0} {s:Shared}
structure Can (prog:Program) (w:World) (up:Around->Prop) (κ:PyProof.Rows.KeyKind) (kd:SortKind) (h:Heap) (a:Addr) (vs:List Value):Prop where
 key:∀v∈vs,∃x,κ.keyOf v=some x
 lt:∀(A:Around) (s:Shared),up A->(∀b o,b≠a->h.get? b=some o->s.heap.get? b=some o)->A6 κ kd prog w A s
 kind:2<=vs.length->∀(A:Around) (E:B0) (s:Shared) (Q:SortKind->Shared->Prop),(∀b o,b≠a->h.get? b=some o->s.heap.get? b=some o)->Q kd s->wpAny (model prog w) A (keyKind' vs.toArray) Q E s
variable {vs:List Value} {κ:PyProof.Rows.KeyKind}
theorem uO {p:Array Nat} (hp:p.Perm (List.range vs.length).toArray) (u:Ks.Up (O:=κ.toKeyOrd) (λi=>kv κ (vs.getD i Value.none,vs.getD i Value.none)) p vs.length) :
  (p.toList.map λi=>vs.getD i Value.none).Perm vs/\(p.toList.map λi=>vs.getD i Value.none).Pairwise (leV κ):=by
 have pl:p.toList.Perm (List.range vs.length):=by simpa using Array.perm_iff_toList_perm.mp hp
 have sz:p.size=vs.length:=by rw[hp.size_eq];simp
 refine⟨?_,?_⟩
 ·have e:vs=(List.range vs.length).map λi=>vs.getD i Value.none:=by
   refine List.ext_getElem (by simp) λi h1 h2=>?_;rw[List.getElem_map,List.getElem_range,Qx,Qe h1];rfl
  conv=>rhs;rw[e]
  exact pl.map _
 rw[Xv,List.pairwise_iff_getElem];intro i j hi hj hij;have:=u i j (by omega) (by rw[Qi]at hj;omega);unfold Ks.at_ at this;rw[Qi]at hi hj;have e1:p.getD i 0=p.toList[i]:=by simp[Array.getD,hi]
 have e2:p.getD j 0=p.toList[j]:=by simp[Array.getD,hj]
 rw[e1,e2]at this;exact this
theorem xb {kd:SortKind} {G:Array Nat->Shared->Prop} (hL:A6 κ kd prog w A s) (hk:∀v∈vs,∃x,κ.keyOf v=some x) (h0:0<vs.length)
  (h:∀p:Array Nat,(p.toList.map λi=>vs.getD i Value.none).Perm vs->(p.toList.map λi=>vs.getD i Value.none).Pairwise (leV κ)->G p s):(PySem.W.kas_sort vs.length).kasWp (PySem.W.kas_ask prog w A kd vs) G s:=by
 refine Ks.wp_of (N:=vs.length) (c:=Ks.cb (O:=κ.toKeyOrd) λi=>kv κ (vs.getD i Value.none,vs.getD i Value.none)) (λi j hi hj C hC=>?_) _ (Ks.low_sort h0) ?_
 ·have mem:∀i,i<vs.length->∃x,κ.keyOf (vs.getD i Value.none)=some x:=λi hi=>hk _ (by rw[Qx,Qe hi];exact Q9 hi);obtain⟨a,ha⟩:=mem i hi;obtain⟨b,hb⟩:=mem j hj;refine hL _ _ _ a b _ ha hb ?_
  have e:Ks.cb (O:=κ.toKeyOrd) (λi=>kv κ (vs.getD i Value.none,vs.getD i Value.none)) i j=κ.blt a b:=by
   show κ.blt ((κ.keyOf (vs.getD i Value.none)).getD κ.dflt) ((κ.keyOf (vs.getD j Value.none)).getD κ.dflt)=_;rw[ha,hb];rfl
  rw[e]at hC;exact hC
 obtain⟨a1,a2⟩:=Ks.sort_ (O:=κ.toKeyOrd) (K:=λi=>kv κ (vs.getD i Value.none,vs.getD i Value.none)) h0;obtain⟨b1,b2⟩:=uO a1 a2;exact h _ b1 b2
variable {a b d:Addr}
theorem iX {up:Around->Prop} {kd:SortKind} {n:Nat} {P:Fin->Shared->Prop} (ho:s.heap.get? a=some (seqObj "list" vs.toArray n)) (c:Can prog w up κ kd s.heap a vs) (hu:up A) (hn:vs.length<64)
  (h:∀out:Array Value,out.toList.Perm vs->out.toList.Pairwise (leV κ)->P (.done (.ret .none)) { s with heap:=sortedHeap s.heap a vs out }):wpAny (model prog w) A (Builtin.«list.sort» ⟨[.ref a],[]⟩) P E s:=by
 rw[list_sort_plain];have ha:a<s.heap.objs.size:=Qq ho;refine Qa (listItems_at ho rfl (Qa (listUpdate_at ho rfl ?_)));obtain⟨e1,ho1⟩:∃e1,(s.heap.update a (Obj.mapSeq λ_=>#[])).get? a=some (seqObj "list" #[] e1):=⟨_,get?_update_seq ho (λ_=>#[])⟩;refine Qa (seqEpoch_at ho1 rfl (Qa (wpAny_newTuple (Qa (wpAny_newList (QZ ?_))) (by rw[XZ];show vs.length<=_;omega))))
 have keep:∀b o,b≠a->s.heap.get? b=some o->(((s.heap.update a (Obj.mapSeq λ_=>#[])).push (seqObj "tuple" vs.toArray 0)).push (seqObj "list" #[] 0)).get? b=some o:=λb o hb e =>
  Qc _ (Qc _ ((Xq _ _ (Ne.symm hb)).trans e))
 have ho6:(((s.heap.update a (Obj.mapSeq λ_=>#[])).push (seqObj "tuple" vs.toArray 0)).push (seqObj "list" #[] 0)).get? a=some (seqObj "list" #[] e1):=Qc _ (Qc _ ho1);show wpAny (model prog w) A _ P E { s with heap:=((s.heap.update a (Obj.mapSeq λ_=>#[])).push (seqObj "tuple" vs.toArray 0)).push (seqObj "list" #[] 0) };dsimp only;have zs:vs.toArray.size=vs.length:=by simp
 by_cases c2:vs.toArray.size<2
 ·rw[Qs c2,Qs c2];refine Qa (Qf ?_);rw[StateT.run_pure];refine Qa (Qf (Qa (seqEpoch_at ho6 rfl (Qa (listUpdate_at ho6 rfl ?_ (hsz2:=by rw[Array.size_map];show (pairsOf vs).size<=_;rw[pairsOf_size,XZ];omega))))));simp only[bne_self_eq_false,QG,XD];have e:((vs.toArray.zip vs.toArray).map (·.2)).toList=vs:=by simp[List.map_snd_zip]
  have p1:(((vs.toArray.zip vs.toArray).map (·.2)).toList).Perm vs:=by rw[e]
  have p2:(((vs.toArray.zip vs.toArray).map (·.2)).toList).Pairwise (leV κ):=by
   rw[e]
   match vs,zs,c2 with
   | [],_,_=>exact List.Pairwise.nil
   | [v],_,_=>exact List.pairwise_singleton _ _
   | v::u::r,zs,c2=>exact absurd c2 (by simp)
  exact Qf (h _ p1 p2)
 rw[Qo c2,Qo c2];refine Qa (c.kind (by omega) _ _ _ _ keep ?_);have h2:2<=vs.length:=by omega
 refine Qa (XT (PySem.W.kat_run (κ:=kd) (ks:=vs) (vs:=vs) (G:=λp s'=>s'=_/\(p.toList.map λi=>vs.getD i Value.none).Perm vs/\(p.toList.map λi=>vs.getD i Value.none).Pairwise (leV κ))
  (Q:=λst' s'=>s'=_/\failedOf st'=none/\∃l:List Value,(arrOf st').map (·.2)=l.toArray/\l.Perm vs/\l.Pairwise (leV κ)) rfl h2 hn
  (λp st' s' a1 a2 a3 a4=>⟨a4.1,a3,_,PySem.W.kat_snds rfl a2,a4.2⟩) (xb (c.lt _ _ hu keep) c.key (by omega) λp q1 q2=>⟨rfl,q1,q2⟩)) ?_ λ_ _ e=>e)
 rintro⟨⟨⟩,st'⟩ s' ⟨rfl,hf,l,hl,q1,q2⟩;dsimp only;rw[hl];refine Qa (seqEpoch_at ho6 rfl (Qa (listUpdate_at ho6 rfl ?_ (hsz2:=by rw[Ql,q1.length_eq,XZ];omega))));rw[hf];simp only[bne_self_eq_false,QG,XD];exact Qf (h _ q1 q2)
theorem eV {h:Heap} {out:Array Value} {o:Obj} (hb:b≠a) (e:h.get? b=some o):(sortedHeap h a vs out).get? b=some o:=by
 unfold sortedHeap;exact(Xq _ _ (Ne.symm hb)).trans (Qc _ (Qc _ ((Xq _ _ (Ne.symm hb)).trans e)))
theorem fG {h:Heap} {vs:List Value} {out:Array Value} {n:Nat} (e:h.get? a=some (seqObj "list" vs.toArray n)):∃m,(sortedHeap h a vs out).get? a=some (seqObj "list" out m):=by
 unfold sortedHeap;exact⟨_,get?_update_seq (Qc _ (Qc _ (get?_update_seq e (λ_=>#[])))) (λ_=>out)⟩
theorem rX {up:Around->Prop} {κ:Heap->PyProof.Rows.KeyKind} {kd:SortKind} {r:Value} {Q:B0} {G:Heap->List Value->Prop}
  (col:∀(A:Around) (E:B0) (R:List Value->Shared->Prop),A.handled=none->(∀h' tk vs,(∀b o,s.heap.get? b=some o->h'.get? b=some o)->s.heap.objs.size<=h'.objs.size->G h' vs->R vs { s with heap:=h',toks:=tk })->wpAny (model prog w) A (collect r) R E s)
  (hh:A.handled=none) (hu:up A.in1.in1) (can:∀h' vs D,(∀b o,s.heap.get? b=some o->h'.get? b=some o)->G h' vs->D=h'.objs.size->vs.length<64/\Can prog w up (κ h') kd (h'.push (seqObj "list" vs.toArray 0)) D vs)
  (h:∀D h' tk vs h1 (out:Array Value) m,(∀b o,s.heap.get? b=some o->h1.get? b=some o)->G h1 vs->(∀b o,h1.get? b=some o->h'.get? b=some o)->s.heap.objs.size<=D->h1.objs.size<=D->h'.get? D=some (seqObj "list" out m)->out.toList.Perm vs->out.toList.Pairwise (leV (κ h1))->Q (.ref D) { s with heap:=h',toks:=tk }) :
  wpAny (model prog w) A (call (.builtin "sorted") [r]) Q E s:=by
 refine Calls.call_function_entry kind_sorted plain_sorted entry_sorted (args_sorted1 _) ?_;unfold Builtin.«sorted»;refine Qa (m:=checkCount "sorted" 1 1 _) (Qf ?_);refine Qa (col A.in1 E _ hh λh1 tk vs k1 z1 g1=>?_);obtain⟨len,_⟩:=can h1 vs h1.objs.size k1 g1 rfl;refine Qa (wpAny_newList ?_ (by rw[XZ];omega));obtain⟨_,cn⟩:=can h1 vs h1.objs.size k1 g1 rfl;have hoL:(h1.push (seqObj "list" vs.toArray 0)).get? h1.objs.size=some (seqObj "list" vs.toArray 0):=Qt _ rfl;refine Qa (QZ (Q4 (s:={ s with heap:=h1.push (seqObj "list" vs.toArray 0),toks:=tk }) slot_list_sort ⟨_,hoL,rfl⟩ entry_list_sort (iX hoL cn hu len λout p1 p2=>⟨_,rfl,?_⟩) (args_list_sort _)));obtain⟨m,at'⟩:=fG (vs:=vs) (out:=out) hoL;exact Qf ⟨_,rfl,h _ _ _ vs h1 out m k1 g1 (λb o e=>eV (QB (Qq e)) (Qc _ e)) z1 (Qg _) at' p1 p2⟩
theorem v0 {T:String} {r:Addr} {n:Nat} {P:Nat->Value->Prop} {OK:Heap->Prop} {R:List Value->Shared->Prop} (K:PySem.W.KdlSrc prog w T r d n P OK) (hh:A.handled=none) (ok:OK s.heap) (hn:n<=sizeLine)
  (h:∀(g:Heap) (tk:Nat) (acc:Array Value),(∀b o,s.heap.get? b=some o->g.get? b=some o)->s.heap.objs.size<=g.objs.size->PySem.ItemsOf P acc n->R acc.toList { s with heap:=g,toks:=tk }):wpAny (model prog w) A (collect (.ref r)) R E s:=by
 obtain⟨l1,l2⟩:=K.there _ ok;unfold collect;refine Qa (wpAny_runValue (XF entry_proto_collect' ?_));rw[Xs PySem.F.plain_proto_collect _];refine Qa (Xi (Qf ⟨plainId_quiet PySem.F.plain_list_iadd _,XF entry_list_iadd' ?_⟩));rw[Xs PySem.F.plain_list_iadd _]
 refine XT (PySem.W.kdl_extend (A:=A) (s:={ s with heap:=s.heap.push { cls:=.type "list", data:=.seq ([]:List Value).toArray } }) (R:=λq s'=>∃(g:Heap) (tk:Nat) (acc:Array Value) (c:Nat),q=.ok (.ret (.ref s.heap.objs.size))/\s'={ s with heap:=g,toks:=tk } /\
   (∀b o,s.heap.get? b=some o->g.get? b=some o)/\g.get? s.heap.objs.size=some { cls:=.type "list", dict:=none,data:=.seq acc c,slots:=#[] }/\PySem.ItemsOf P acc n)
  K hh (K.keep _ _ ok λb _ o e=>Qc _ e) s.heap.objs.size (Nat.ne_of_gt l1) (Nat.ne_of_gt l2) (.ref s.heap.objs.size) 0 (Qt _ rfl)
  (λg tk acc c k at' it=>⟨g,tk,acc,c,rfl,rfl,λb o e=>k b o (QB (Qq e)) (Qc _ e),at',it⟩) hn) (λfn s' x=>?_) λe s' x=>?_
 ·cases fn with
  | done f =>
   obtain⟨g,tk,acc,c,e,rfl,k,at',it⟩:=x;cases e;exact Qa (wpAny_load at' (Qf (h g tk acc k (X7 (Qq at')) it)))
  | again c1 =>
   refine⟨x.1,codeAny_mono x.2 λq s2 y=>?_⟩;obtain⟨g,tk,acc,c,rfl,rfl,k,at',it⟩:=y;exact Qa (wpAny_load at' (Qf (h g tk acc k (X7 (Qq at')) it)))
 obtain⟨_,_,_,_,z,_⟩:=x;cases z
end
end Tm
set_option maxHeartbeats 4000000
namespace Tm
open PySem PySem.Spec PyProof.Rows L2
def kb:Key->Key->Bool
 | .inl i,.inl j=>decide (i<j)
 | .inl _,.inr _=>true
 | .inr _,.inl _=>false
 | .inr x,.inr y=>decide (x.cps.toList<y.cps.toList)
def lb:List Key->List Key->Bool
 | [],[]=>false
 | [],_::_=>true
 | _::_,[]=>false
 | a::as,b::bs=>kb a b || (decide (a=b)&&lb as bs)
theorem xz {x y:Str} (e:x.cps.toList=y.cps.toList):x=y:=by cases x;cases y;exact congrArg Str.mk (Array.toList_inj.mp e)
theorem lr (a:Key):kb a a=false:=by
 cases a with
 | inl i=>exact Qu (Int.lt_irrefl _)
 | inr x=>exact Qu (List.lt_irrefl _)
theorem zt (a b:Key):kb a b=true\/a=b\/kb b a=true:=by
 cases a with
 | inl i =>
  cases b with
  | inl j =>
   rcases Int.lt_trichotomy i j with h|h|h
   ·exact .inl (Qv h)
   ·exact .inr (.inl (by rw[h]))
   exact .inr (.inr (Qv h))
  | inr y=>exact .inl rfl
 | inr x =>
 cases b with
 | inl j=>exact .inr (.inr rfl)
 | inr y =>
 by_cases h1:x.cps.toList<y.cps.toList
 ·exact .inl (Qv h1)
 by_cases h2:y.cps.toList<x.cps.toList
 ·exact .inr (.inr (Qv h2))
 exact .inr (.inl (by rw[xz (List.le_antisymm (List.not_lt.mp h2) (List.not_lt.mp h1))]))
theorem vA {a b c:Key} (h1:kb a b=true) (h2:kb b c=true):kb a c=true:=by
 cases a with
 | inl i =>
  cases c with
  | inr z=>rfl
  | inl k =>
  cases b with
  | inr y=>cases h2
  | inl j=>exact Qv (Int.lt_trans (Xu h1) (Xu h2))
 | inr x =>
 cases b with
 | inl j=>cases h1
 | inr y =>
 cases c with
 | inl k=>cases h2
 | inr z=>exact Qv (List.lt_trans (Xu h1) (Xu h2))
theorem lq:∀l:List Key,lb l l=false
 | []=>rfl
 | a::l=>by unfold lb;rw[lr,lq l];simp
theorem lj:∀x y:List Key,lb x y=true\/x=y\/lb y x=true
 | [],[]=>.inr (.inl rfl)
 | [],_::_=>.inl rfl
 | _::_,[]=>.inr (.inr rfl)
 | a::x,b::y=>by
  unfold lb;rcases zt a b with h|rfl|h
  ·exact .inl (by rw[h];rfl)
  ·rcases lj x y with h|rfl|h
   ·exact .inl (by rw[h];simp)
   ·exact .inr (.inl rfl)
   exact .inr (.inr (by rw[h];simp))
  exact .inr (.inr (by rw[h];rfl))
theorem fc:∀{x y z:List Key},lb x y=true->lb y z=true->lb x z=true
 | [],_,[],h1,h2=>by cases h2':(‹List Key›) with
  | nil=>rw[h2']at h1;cases h1
  | cons _ _=>rw[h2']at h2;cases h2
 | [],_,_::_,_,_=>rfl
 | _::_,[],_,h1,_=>by cases h1
 | _::_,_::_,[],_,h2=>by cases h2
 | a::x,b::y,c::z,h1,h2=>by
  unfold lb at h1 h2 ⊢;rw[Bool.or_eq_true,Xz,decide_eq_true_eq] at *;rcases h1 with h1|⟨rfl,h1⟩
  ·rcases h2 with h2|⟨rfl,h2⟩
   ·exact .inl (vA h1 h2)
   exact .inl h1
  rcases h2 with h2|⟨rfl,h2⟩
  ·exact .inl h2
  exact .inr ⟨rfl,fc h1 h2⟩
def leK (x y:List Key):Prop:=lb y x=false
theorem ny {x y:List Key} (h1:leK x y) (h2:leK y x):x=y:=by
 rcases lj x y with h|h|h
 ·rw[h2]at h;cases h
 ·exact h
 rw[h1]at h;cases h
theorem sL (x y:List Key):leK x y\/leK y x:=by
 cases h:lb y x with
 | false=>exact .inl h
 | true =>
 refine .inr ?_
 cases h2:lb x y with
 | false=>exact h2
 | true=>have:=fc h h2;rw[lq]at this;cases this
noncomputable def zq:PyProof.Rows.KeyOrd where
 α:=List Key
 blt:=lb
 irrefl:=lq
 trans _ _ _ h1 h2:=fc h1 h2
 negTrans a b c h:=by
  rcases lj a b with h1|rfl|h1
  ·exact .inl h1
  ·exact .inr h
  exact .inr (fc h1 h)
 total a b h1 h2:=ny h2 h1
def sh1:Key->Bool
 | .inl _=>false
 | .inr _=>true
def sh2:Key ⊕ List Key->Bool ⊕ List Bool
 | .inl k=>.inl (sh1 k)
 | .inr ks=>.inr (ks.map sh1)
def flat:aB->List Key
 | []=>[]
 | .inl k::r=>k::flat r
 | .inr ks::r=>ks++flat r
theorem gn (a b:Key) (x y:List Key):lb (a::x) (b::y)=(kb a b || (decide (a=b)&&lb x y)):=rfl
theorem pL:∀{x y:List Key} {u v:List Key},x.length=y.length->lb (x++u) (y++v)=(lb x y || (decide (x=y)&&lb u v))
 | [],[],u,v,_=>by simp[lb]
 | a::x,b::y,u,v,h=>by
  rw[List.cons_append,List.cons_append,gn,gn,pL (by simpa using h)];by_cases e:a=b
  ·subst e;simp[lr]
  simp[e]
section
variable {prog:Program} {w:World} {A:Around} {E:B0} {s:Shared}
theorem AM {x y:Key} {u v:Value} {R:B0} (e:sh1 x=sh1 y) (hx:dN x u=true) (hy:dN y v=true) (h:R (.bool (kb x y)) s):wpAny (model prog w) A (compareOp .Lt u v) R E s:=by
 rcases aN hx with⟨i,t,rfl,rfl⟩|⟨z,t,rfl,rfl⟩
 ·rcases aN hy with⟨j,t',rfl,rfl⟩|⟨z',t',rfl,rfl⟩
  ·exact lt_int h
  cases e
 rcases aN hy with⟨j,t',rfl,rfl⟩|⟨z',t',rfl,rfl⟩
 ·cases e
 exact PyProof.Rows.lt_str h
theorem w6 {x y:List Key} {a b:Addr} {P:Fin->Shared->Prop} (e:x.map sh1=y.map sh1) (hx:IsTupleKey (ax prog w) s.heap x a) (hy:IsTupleKey (ax prog w) s.heap y b) (h:P (.done (.ret (.bool (lb x y)))) s) :
  wpAny (model prog w) A (Builtin.«tuple.__lt__» ⟨[.ref a,.ref b],[]⟩) P E s:=by
 have hTb:=hy.typeIs;obtain⟨oa,xs,na,hoa,_,hda,hia⟩:=hx;obtain⟨ob,ys,nb,hob,_,hdb,hib⟩:=hy;show wpAny _ _ (isInstance (.ref b) (.type "tuple") >>= _) _ _ s;refine Qa (wpAny_isInstance hTb isSubtype_tuple_tuple ?_);simp only[X1,QG,XD];refine Qa (wpAny_tupleItemsOf hoa hda ?_);refine Qa (wpAny_tupleItemsOf hob hdb ?_);refine Qa ?_
 have zz:xs.size=ys.size:=by
  have:=congrArg List.length e;rw[Qb,Qb,hia.length,hib.length,Qi,Qi]at this;exact this
 refine wpAny_forIn_list _
  (λrest r s'=>r.1=none/\s'=s/\∃x' y' xs' ys',rest=List.zip xs' ys'/\ItemsAre (ax prog w) x' xs'/\ItemsAre (ax prog w) y' ys'/\lb x' y'=lb x y/\x'.map sh1=y'.map sh1)
  _ ?_ ?_ _ _ ⟨rfl,rfl,x,y,xs.toList,ys.toList,rfl,hia,hib,rfl,e⟩
 ·rintro⟨u,v⟩ rest r s' ⟨hr,rfl,x',y',xs',ys',hz,hx',hy',hdec,hsh⟩
  cases hx' with
  | nil=>simp at hz
  | @cons k1 u' x'' xs'' h1 hx'' =>
  cases hy' with
  | nil=>simp at hz
  | @cons k2 v' y'' ys'' h2 hy'' =>
  simp only[List.zip_cons_cons,List.cons.injEq,Prod.mk.injEq]at hz;obtain⟨⟨rfl,rfl⟩,rfl⟩:=hz;rw[Qw,Qw]at hsh;injection hsh with s1 s2;refine Qa ((ax prog w).eqBool (a:=k1) (b:=k2) h1 h2 ?_);by_cases hk:k1=k2
  ·subst hk;rw[Qv rfl];simp only[X1,QG,XD];refine Qf ⟨rfl,rfl,x'',y'',xs'',ys'',rfl,hx'',hy'',?_,s2⟩;rw[<-hdec]
   conv=>rhs;unfold lb
   rw[lr];simp
  rw[Qu hk];simp only[Bool.not_false,if_true];have hf:lb x y=kb k1 k2:=by rw[<-hdec];unfold lb;simp[hk]
  rw[hf]at h;refine Qa (wpAny_rule (Qa ?_));refine AM s1 h1 h2 ?_;exact Qa (Qf (Qf (Qf h)))
 rintro⟨r1,r2⟩ s' ⟨hr,rfl,x',y',xs',ys',hz,hx',hy',hdec,hsh⟩;simp only at hr;subst hr;refine Qf ?_
 have e0:lb x y=false:=by
  rw[<-hdec]
  cases hx' with
  | nil=>cases hy' with
   | nil=>rfl
   | cons _ _=>cases hsh
  | cons _ _=>cases hy' with
   | nil=>cases hsh
   | cons _ _=>simp at hz
 rw[e0]at h;have:Builtin.Tuple.tupleCompareSizes .Lt xs.size ys.size=.bool false:=by rw[zz];simp[Builtin.Tuple.tupleCompareSizes]
 show P (.done (.ret (Builtin.Tuple.tupleCompareSizes .Lt xs.size ys.size))) s';rw[this];exact h
theorem yF {x y:List Key} {a b:Addr} {R:B0} (hu:A.units<cLine) (e:x.map sh1=y.map sh1) (hx:IsTupleKey (ax prog w) s.heap x a) (hy:IsTupleKey (ax prog w) s.heap y b) (h:R (.bool (lb x y)) s) :
  wpAny (model prog w) A (compareOp .Lt (.ref a) (.ref b)) R E s:=by
 show wpAny _ _ (richCompare .Lt _ _) _ _ _;exact wpAny_richCompare_same_room (op:=.Lt) hx.typeIs hy.typeIs F.slot_tuple_lt (Q4 F.slot_tuple_lt hx.typeIs F.entry_tuple_lt (w6 e hx hy ⟨_,rfl,(λe=>nomatch e),h⟩) (F.args_tuple_lt_2 _ _)) hu
theorem vB {x y:aB} {xs ys:List Value} {b:Bool} {Q:Bool->Shared->Prop} (hu:A.units<cLine) (hx:TK.Its (ax prog w) s.heap x xs) (hy:TK.Its (ax prog w) s.heap y ys) (e:x.map sh2=y.map sh2):∀i,(i=0->b=true->∃k r,x=.inl (.inr k)::r)->Q (lb (flat x) (flat y)) s ->
  PySem.W.KatLex prog w A b false Q (xs.zip ys) i s:=by
 induction hx generalizing y ys with
 | nil =>
  cases hy with
  | nil=>intro i _ q;exact PySem.W.kat_nil q
  | cons _ _=>cases e
 | @cons k1 u x' xs' h1 t1 ih =>
 cases hy with
 | nil=>cases e
 | @cons k2 v y' ys' h2 t2 =>
 intro i hb q;rw[Qw,Qw]at e;injection e with e1 e2;refine PySem.W.kat_cons (TK.it_eq (k_ prog w) hu h1 h2 (PySem.W.kat_go (λc=>PySem.W.kat_yes (ih t2 e2 _ (λz=>absurd z (Nat.succ_ne_zero _)) ?_)) (λc=>PySem.W.kat_no ?_)))
 ·obtain rfl:k1=k2:=by simpa using c
  have:lb (flat (k1::x')) (flat (k1::y'))=lb (flat x') (flat y'):=by
   cases k1 with
   | inl k=>show lb (k::flat x') (k::flat y')=_;rw[gn,lr];simp
   | inr ks=>show lb (ks++flat x') (ks++flat y')=_;rw[pL rfl,lq];simp
  rw[this]at q;exact q
 have ne:k1≠k2:=by simpa using c
 cases k1 with
 | inl k =>
  cases k2 with
  | inr js=>cases e1
  | inl j =>
  have hkj:k≠j:=λz=>ne (by rw[z]);have:lb (flat (.inl k::x')) (flat (.inl j::y'))=kb k j:=by show lb (k::flat x') (j::flat y')=_;rw[gn];simp[hkj]
  rw[this]at q;have e1:sh1 k=sh1 j:=Sum.inl.inj e1;by_cases c1:(b&&i==0)=true
  ·rw[c1];rw[Xz]at c1;obtain⟨k',r,ek⟩:=hb (by simpa using c1.2) c1.1;injection ek with ek _;injection ek with ek;subst ek;rcases aN (show dN (.inr k') u=true from h1) with⟨_,_,z,_⟩|⟨_,t,z,rfl⟩
   ·cases z
   cases z;rcases aN (show dN j v=true from h2) with⟨_,_,rfl,_⟩|⟨z',t',rfl,rfl⟩
   ·cases e1
   exact oneLt_str q
  rw[show (b&&i==0)=false by simpa using c1];exact PySem.W.kat_one _ _ (AM e1 h1 h2 q)
 | inr ks =>
 cases k2 with
 | inl j=>cases e1
 | inr js =>
 obtain⟨a1,rfl,g1⟩:=h1;obtain⟨a2,rfl,g2⟩:=h2;have e1:ks.map sh1=js.map sh1:=Sum.inr.inj e1;have len:ks.length=js.length:=by have:=congrArg List.length e1;simpa using this
 have hkj:ks≠js:=λz=>ne (by rw[z]);have:lb (flat (.inr ks::x')) (flat (.inr js::y'))=lb ks js:=by show lb (ks++flat x') (js++flat y')=_;rw[pL len];simp[hkj]
 rw[this]at q
 have c1:(b&&i==0)=false:=by
  cases c1:(b&&i==0) with
  | false=>rfl
  | true =>
  rw[Xz]at c1;obtain⟨k',r,ek⟩:=hb (by simpa using c1.2) c1.1;cases ek
 rw[c1];exact PySem.W.kat_one _ _ (yF hu e1 g1 g2 q)
end
def nE (bs:B3) (tk:Addr->aB):PyProof.Rows.KeyKind:={ zq with
 keyOf:=λv=>match v with
  | .ref b=>if b∈bs then some (flat (tk b)) else none
  | _=>none
 dflt:=[] }
theorem j4 {bs:B3} {tk:Addr->aB} {v:Value} {k:List Key} (e:(nE bs tk).keyOf v=some k):∃b,v=.ref b/\b∈bs/\k=flat (tk b):=by
 have no:¬(none:Option (List Key))=some k:=λz=>nomatch z
 cases v with
 | ref b =>
  have e:(if b∈bs then some (flat (tk b)) else none)=some k:=e;by_cases c:b∈bs
  ·rw[Qs c]at e;exact⟨b,rfl,c,(QF e).symm⟩
  rw[Qo c]at e;cases e
 | _=>exact absurd e no
theorem gq {bs:B3} (tk:Addr->aB) {b:Addr} (h:b∈bs):(nE bs tk).keyOf (.ref b)=some (flat (tk b)):=Qs h
def Shp (b:Bool) (bs:B3) (tk:Addr->aB):Prop:=(∀a∈bs,∀c∈bs,(tk a).map sh2=(tk c).map sh2)/\∀a∈bs,if b=true then ∃k r,tk a=.inl (.inr k)::r else ∃k r,tk a=.inr k::r
section
variable {prog:Program} {w:World}
theorem cw {h h':Heap} {k:aB} {a:Addr} (x:TK.IsT (ax prog w) h k a) (ks:∀b o,h.get? b=some o->o.cls=.type "tuple" -> h'.get? b=some o):TK.IsT (ax prog w) h' k a:=by
 obtain⟨o,items,n,h1,h2,h3,h4⟩:=x;refine⟨o,items,n,ks _ _ h1 h2,h2,h3,h4.imp λk v q=>?_⟩
 cases k with
 | inl k=>exact q
 | inr ks' =>
 obtain⟨c,e,o,items,n,h1,h2,h3,h4⟩:=q;exact⟨c,e,o,items,n,ks _ _ h1 h2,h2,h3,h4⟩
theorem og {h:Heap} {a:Addr} {o:Obj} {bs:B3} {tk:Addr->aB} {b:Bool} (ho:h.get? a=some o) (hc:o.cls≠.type "tuple") (p:∀c∈bs,TK.IsT (ax prog w) h (tk c) c) (sp:Shp b bs tk) :
  Can prog w (λA=>A.units<cLine) (nE bs tk) (tuples' b) h a (bs.map Value.ref) where
 key v hv:=by
  obtain⟨c,hc,rfl⟩:=Qm.mp hv;exact⟨_,gq tk hc⟩
 lt A s hu ks:=by
  intro E x y k1 k2 Q h1 h2 q;obtain⟨c1,rfl,m1,rfl⟩:=j4 h1;obtain⟨c2,rfl,m2,rfl⟩:=j4 h2;have kp:∀b o',h.get? b=some o'->o'.cls=.type "tuple" -> s.heap.get? b=some o':=λb o' e ec=>ks _ _ (λz=>by rw[z,ho]at e;cases e;exact hc ec) e;obtain⟨o1,i1,n1,g1,_,d1,t1⟩:=cw (p c1 m1) kp;obtain⟨o2,i2,n2,g2,_,d2,t2⟩:=cw (p c2 m2) kp;have e:=sp.1 _ m1 _ m2
  have ez:decide (i1.size<i2.size)=false:=by
   have l1:∀{k:aB} {vs:List Value},TK.Its (ax prog w) s.heap k vs->k.length=vs.length:=by
    intro k vs q
    induction q with
    | nil=>rfl
    | cons _ _ ih=>simp[ih]
   have:=congrArg List.length e;rw[Qb,Qb,l1 t1,l1 t2,Qi,Qi]at this;rw[this];exact Qu (Zb _)
  refine PySem.W.kat_lt g1 d1 g2 d2 ?_;rw[ez];refine vB hu t1 t2 e 0 (λ_ hb=>?_) q;have:=sp.2 _ m1;rw[Qs hb]at this;exact this
 kind h2 A E s Q ks hq:=by
  have kp:∀b o',h.get? b=some o'->o'.cls=.type "tuple" -> s.heap.get? b=some o':=λb o' e ec=>ks _ _ (λz=>by rw[z,ho]at e;cases e;exact hc ec) e
  have all:∀{l:B3},(∀c∈l,c∈bs)->∃fs:List Value,fs.length=l.length/\PySem.W.KatTups s.heap (l.map Value.ref) fs/\∀f∈fs,PySem.W.Looks (model prog w) s.heap (typeOf f) (.type (if b=true then "str" else "tuple")):=by
   intro l
   induction l with
   | nil=>intro _;exact⟨[],rfl,.nil,λf hf=>nomatch hf⟩
   | cons c l ih =>
   intro hl;obtain⟨fs,z1,z2,z3⟩:=ih λc h=>hl c (Qn _ h);have hcb:=hl c (by simp);obtain⟨o1,i1,n1,g1,cl,d1,t1⟩:=cw (p c hcb) kp;have sp2:=sp.2 c hcb
   cases b with
   | true =>
    rw[Qs rfl]at sp2 ⊢;obtain⟨k,r,ek⟩:=sp2;rw[ek]at t1;generalize hv:i1.toList=vs at t1
    cases t1 with
    | @cons _ v _ vs h1 _ =>
    rcases aN (show dN (.inr k) v=true from h1) with⟨_,_,z,_⟩|⟨_,t,z,rfl⟩
    ·cases z
    refine⟨_::fs,by simp[z1],.cons g1 cl d1 (by rw[<-Q6,hv];rfl) z2,λf hf=>?_⟩;rcases Qj.mp hf with rfl|hf
    ·exact PySem.W.Looks.of_pure rfl
    exact z3 f hf
   | false =>
   rw[Qo Qr]at sp2 ⊢;obtain⟨k,r,ek⟩:=sp2;rw[ek]at t1;generalize hv:i1.toList=vs at t1
   cases t1 with
   | @cons _ v _ vs h1 _ =>
   obtain⟨c',rfl,o2,i2,n2,g2,cl2,_⟩:=h1;refine⟨_::fs,by simp[z1],.cons g1 cl d1 (by rw[<-Q6,hv];rfl) z2,λf hf=>?_⟩;rcases Qj.mp hf with rfl|hf
   ·exact λA Q E s' k q=>wpAny_typeOf_ref (k _ _ g2) (by rw[cl2];exact q)
   exact z3 f hf
  obtain⟨fs,l,kt,hf⟩:=all (l:=bs) λ_ h=>h;rw[Qb]at h2;refine PySem.W.kat_kind (T:=.type (if b=true then "str" else "tuple")) kt (by omega) hf (by cases b <;> decide) ?_;have:(Value.type (if b=true then "str" else "tuple") != Value.type "tuple")=b:=by cases b <;> decide
  rw[this];exact hq
end
end Tm
namespace LZ
open PySem
section
variable {prog:Program} {w:World} {A:Around} {E:B0} {s:Shared}
abbrev IsZ (h:Heap) (z TI TO:Addr) (f0:Value) (f1:Bool):Prop :=
 h.get? z=some { cls:=.type "zip", dict:=none,data:=.fields #[f0,.bool f1,.bool false,.ref TI,.ref TO],slots:=#[] }
structure Apart5 (z TI TO i1 i2 l:Addr):Prop where
 TIz:TI≠z
 TOz:TO≠z
 i1z:i1≠z
 i2z:i2≠z
 TITO:TI≠TO
 TIi1:TI≠i1
 TIi2:TI≠i2
 TOi1:TO≠i1
 TOi2:TO≠i2
 i12:i1≠i2
 lz:l≠z
 lTO:l≠TO
 li1:l≠i1
 li2:l≠i2
theorem yz {a:Addr} {o:Obj} {Q:Option Obj->Shared->Prop} (ho:s.heap.get? a=some o) (h:Q (some o) s):wpAny (model prog w) A (loadIfAlive a) Q E s:=by
 have h':Q (s.heap.get? a) s:=by rw[ho];exact h
 exact λ_ _ _=>h'
theorem next_end {z TI TO i1 i2 l:Addr} {f0:Value} {f1:Bool} {k:Nat} {xs:Array Value} {a b:Value} {Q:Option Value->Shared->Prop} (hh:A.handled=none) (D:Apart5 z TI TO i1 i2 l)
  (hz:IsZ s.heap z TI TO f0 f1) (hf:(f0=.none/\f1=false/\∃a b,IsPair s.heap TO a b)\/∃(T:Addr) (oT:Obj),f0=rawInt (T:Nat)/\s.heap.get? T=some oT) (hTI:IsPair s.heap TI (.ref i1) (.ref i2)) (h1:s.heap.IsListIter i1 l k) (hl:s.heap.IsList l xs) (hv:xs[k]?=none)
  (hQ:∀h',(∀c o,c≠z->c≠i1->s.heap.get? c=some o->h'.get? c=some o)->Q none { s with heap:=h' }):wpAny (model prog w) A (pyNext (.ref z)) Q E s:=by
 have hTy:s.TypeIs (.ref z) "zip" := ⟨_,hz,rfl⟩;unfold pyNext
 refine Qa (wpAny_attempt (Xh (name:=Str.ofString "__next__") hTy F.slot_zip_next
  (Q4 F.slot_zip_next hTy F.entry_zip_next ?_ (F.args_zip_next_1 _))))
 show wpAny _ _ (field (.ref z) 2 >>= _) _ _ _;refine Qa (Xy hz rfl (x:=.bool false) rfl ?_);show wpAny _ _ (field (.ref z) 3 >>= _) _ _ _;refine Qa (Xy hz rfl (x:=.ref TI) rfl ?_);refine Qa (XQ hTI rfl ?_);show wpAny _ _ (Builtin.SmallTypes.ownedTupleIsFree (.ref z) >>= _) _ _ _;refine Qa ?_;unfold Builtin.SmallTypes.ownedTupleIsFree;refine Qa (Xy hz rfl (x:=f0) rfl ?_)
 have fin:∀h' e,(∀c o,c≠z->c≠i1->s.heap.get? c=some o->h'.get? c=some o)->(∃o,h'.get? e=some o/\o.cls=.type "StopIteration") ->
   wpAny (model prog w) A (do if <-isInstance (.ref e) (.type "StopIteration") then pure none else throw (.ref e)) Q E { s with heap:=h' }:=λh' e hk ⟨o,ho,hc⟩ =>
  Qa (wpAny_isInstance (T := "StopIteration") (b:=true) ⟨o,ho,hc⟩ isSubtype_stop (Qf (hQ _ hk)))
 rcases hf with⟨e1,e2,a,b,hTO⟩|⟨T,oT,e1,hT⟩
 ·subst e1 e2;refine Qf ?_;simp only[if_true];refine Qa (wpAny_rule ?_);refine Qa (Xy hz rfl (x:=.ref TO) rfl ?_);refine Qa (X0 hz (by simp) λh₁ hz1 hs₁=>?_)
  replace hz1:IsZ h₁ z TI TO .ellipsis false:=hz1
  refine Qa ?_;simp only[List.zipIdx_cons,List.zipIdx_nil,List.forIn_cons,List.forIn_nil];refine Qa (Qa (wpAny_onRaise ?_));show wpAny _ _ (Builtin.SmallTypes.nextOf (.ref i1) >>= _) _ _ _;refine Qa (wpAny_nextOf_list_end hh (h1.extBut hs₁.extBut D.i1z) (hl.extBut hs₁.extBut D.lz) hv λh₂ e hs₂ he=>?_);obtain⟨oe,hoe,hce⟩:=he;have hz₂:IsZ h₂ z TI TO .ellipsis false:=hs₂ _ _ D.i1z.symm hz1;have hez:e≠z:=λx=>by subst x;rw[hz₂]at hoe;cases hoe;simp at hce
  refine X0 hz₂ (by simp) λh₃ _ hs₃=>?_;exact fin h₃ e (λc o c1 c3 x=>hs₃.extBut _ _ c1 (hs₂ _ _ c3 (hs₁.extBut _ _ c1 x))) ⟨oe,hs₃.extBut _ _ hez hoe,hce⟩
 subst e1;show wpAny _ _ (loadIfAlive ((T:Int).toNat) >>= _) _ _ _;rw[Q7];refine Qa (yz hT ?_);simp only[Option.isNone_some,QG,XD];refine Qa (Xy hz rfl (x:=.bool f1) rfl ?_)
 cases f1 with
 | false =>
  simp only[show (Value.bool false != Value.bool true)=true from rfl,if_true];refine Qa (X0 hz (by simp) λh₁ hz1 hs₁=>Qf ?_)
  replace hz1:IsZ h₁ z TI TO (rawInt T) true:=hz1
  simp only[QG,XD,List.forIn_toArray,List.forIn_cons,List.forIn_nil];refine Qa (Qa (Qa (QZ ?_)));show wpAny _ _ (Builtin.SmallTypes.nextOf (.ref i1) >>= _) _ _ _;refine Qa (wpAny_nextOf_list_end hh (h1.extBut hs₁.extBut D.i1z) (hl.extBut hs₁.extBut D.lz) hv λh₂ e hs₂ he=>?_);exact fin h₂ e (λc o c1 c3 x=>hs₂ _ _ c3 (hs₁.extBut _ _ c1 x)) he
 | true =>
 simp only[show (Value.bool true != Value.bool true)=false from rfl,QG,XD];refine Qf ?_;simp only[QG,XD,List.forIn_toArray,List.forIn_cons,List.forIn_nil];refine Qa (Qa (Qa (QZ ?_)));show wpAny _ _ (Builtin.SmallTypes.nextOf (.ref i1) >>= _) _ _ _;refine Qa (wpAny_nextOf_list_end hh h1 hl hv λh₂ e hs₂ he=>?_);exact fin h₂ e (λc o c1 c3 x=>hs₂ _ _ c3 x) he
end
theorem iU:mroOf (.type "dict")=pure [.type "dict", .type "object"]:=by rw[mroOf_type];kernel_rfl
theorem h_:typeLookup (.type "dict") "__new__" = pure (some (.builtin "dict.__new__")):=by rw[typeLookup_type,builtinLookup_eq_fast];kernel_rfl
theorem oh:TypeCalled "dict" "dict.__new__" "dict.__init__" :=
 ⟨by decide +kernel,by decide +kernel,⟨_,_,iU⟩,madeBy_type iU h_ (by decide +kernel),by decide +kernel,by rw[isSubtype_type];kernel_rfl,F.slot_dict_init⟩
theorem hV (a:Value):checkTypeCall "dict" ⟨[a],[]⟩=pure ():=by kernel_rfl
theorem iT (a:Value):checkBuiltinCall "dict.__new__" ⟨[.type "dict", a],[]⟩=pure ():=by kernel_rfl
theorem ja:entryFor table "dict.__new__" = some Builtin.«dict.__new__»:=entryFor_of_tree (by kernel_rfl)
theorem iM:plainId "dict.__new__" = true:=by decide +kernel
theorem tU:isSubtype (.type "dict") (.type "dict")=pure true:=by rw[isSubtype_type];kernel_rfl
theorem kh:entryFor table "dict.update.loop" = some Builtin.«dict.update.loop»:=entryFor_of_tree (by kernel_rfl)
theorem fk:plainId "dict.update.loop" = true:=by decide +kernel
structure ApartD (z TI TO i1 i2 l d:Addr):Prop extends Apart5 z TI TO i1 i2 l where
 dz:d≠z
 dTI:d≠TI
 dTO:d≠TO
 di1:d≠i1
 di2:d≠i2
 dl:d≠l
structure ZS (h:Heap) (z TI TO i1 i2 l d:Addr) (ty:String) (x:Str) (t:Tok) (xs:Array Value) (k:Nat):Prop where
 zf:(IsZ h z TI TO .none false/\∃a b,IsPair h TO a b)\/∃(T:Addr) (f1:Bool) (oT:Obj),IsZ h z TI TO (rawInt (T:Nat)) f1/\h.get? T=some oT/\T≠z/\T≠i1/\T≠i2/\T≠d
 ti:IsPair h TI (.ref i1) (.ref i2)
 a1:h.IsListIter i1 l k
 a2:h.IsStrIter i2 ty x t k
 li:h.IsList l xs
section
variable {prog:Program} {w:World} {K:Type} [DecidableEq K] {knd:KeyKind prog w K} {A:Around} {R:Result->Shared->Prop}
def fj (kvs:List (K × Value)) (ps:List (K × Value)):List (K × Value):=ps.foldl (λacc p=>stored acc p.1 p.2) kvs
theorem oN (kvs:List (K × Value)) (k:K) (v:Value):(stored kvs k v).length<=kvs.length+1:=by
 unfold stored
 split
 ·rw[Qb];exact Ay
 rw[Qh];simp
variable {Q E:B0}
theorem jA {s:Shared} (a:Value) (h:Q (.ref s.heap.objs.size) { s with heap:=s.heap.push { cls:=.type "dict", data:=.dict #[] } }) :
  codeAny (model prog w) A (.call (.builtin "dict.__new__") ⟨[.type "dict", a],[]⟩) (wants Q E) s:=by
 refine codeAny_call_builtin iM ja (wpAny_of_eq (iT a) ?_);have hsub:=tU;have hmro:=iU;obtain⟨hp,g,d,tk,os⟩:=s;unfold Builtin.«dict.__new__»
 wp_walk
 exact h
end
end LZ
namespace L2
open PySem PySem.Spec PyProof.Rows
def ca (kvs:List (Key × V)):List (Key × V)->List (Key × V)
 | []=>kvs
 | p::r=>ca (bv kvs p.1 p.2) r
theorem vq:∀{qs:List (Key × V)} {ps:List (Key × Value)} {kvs:List (Key × V)} {vs:List (Key × Value)},KV qs ps->KV kvs vs->KV (ca kvs qs) (LZ.fj vs ps)
 | [],_,_,_,h,r=>by cases h;exact r
 | q::qs,p::ps,kvs,vs,h,r=>by
  cases h with
  | cons h1 h2 =>
  show KV (ca (bv kvs q.1 q.2) qs) (LZ.fj (stored vs p.1 p.2) ps);rw[<-h1.1];exact vq h2 (r.put q.1 h1.2)
theorem paired_get {α β:Type} {F:α->β->Prop}:∀{xs:List α} {ys:List β},xs.length=ys.length->(∀(j:Nat) x y,xs[j]?=some x->ys[j]?=some y->F x y)->Paired F xs ys
 | [],[],_,_=>.nil
 | x::xs,y::ys,hl,h=>.cons (h 0 x y rfl rfl) (paired_get (by simpa using hl) λj a b e1 e2=>h (j+1) a b (by simpa using e1) (by simpa using e2))
theorem fJ:∀(qs kvs:List (Key × V)),(ca kvs qs).length<=kvs.length+qs.length
 | [],kvs=>Qg _
 | q::qs,kvs=>by
  have h1:=fJ qs (bv kvs q.1 q.2);have h2:=bX kvs q.1 q.2;show (ca (bv kvs q.1 q.2) qs).length<=_;rw[XA];exact Az h1 h2
section
variable {X:Cx} {a b:Expr} {ta:TA} {p1 p2 pos1 pos2:Pos}
end
end L2
namespace LZ
open PySem
section
variable {prog:Program} {w:World} {A:Around} {E:B0} {s:Shared}
theorem gm:typeLookup (.type "list") "__getattr__" = pure none:=by rw[typeLookup_type,builtinLookup_eq_fast];kernel_rfl
theorem iY:typeLookup (.type "list") "keys" = pure none:=by rw[typeLookup_type,builtinLookup_eq_fast];kernel_rfl
theorem d6:entryFor table "list.__getattribute__" = some Builtin.«object.__getattribute__» :=
 entryFor_alias (id' := "object.__getattribute__") (by kernel_rfl) (by decide +kernel) (by decide +kernel) (by kernel_rfl)
theorem hZ (a:Addr) (xs:Array Value) (m:Nat) (sl:Array (Option Value)) (u:Tok) :
  Meets (Builtin.«object.__getattribute__» ⟨[.ref a,.str "keys" u],[]⟩) (λA R s=>s.heap.get? a=some { cls:=.type "list", dict:=none,data:=.seq xs m,slots:=sl }/\raisesAttr (.ref a) "keys" A R s) :=
 Meets.of_wp λprog w A R s hs=>by
  obtain⟨hp,g,d,tk,os⟩:=s;obtain⟨hx,hs⟩:=hs;have hT:(⟨hp,g,d,tk,os⟩:Shared).TypeIs (.ref a) "list" := ⟨_,hx,rfl⟩;have hmiss:=iY;have hname:(["__module__", "__name__", "__qualname__", "__doc__", "__annotations__"]:List Str).contains "keys" = false:=by decide +kernel
  unfold Builtin.«object.__getattribute__»
  repeat (any_goals (first|assumption|wp_step))
  try simp only[hname,QG,XD]
  repeat (any_goals (first|assumption|wp_step))
  exact wpAny_raiseAttrError hs.1 hs.2 (attrMsg_fits (by decide +kernel) (by decide +kernel))
theorem pO {a:Addr} {xs:Array Value} {m:Nat} {sl:Array (Option Value)} {Q:Option Value->Shared->Prop} (hx:s.heap.get? a=some { cls:=.type "list", dict:=none,data:=.seq xs m,slots:=sl }) (hA:A.handled=none)
  (h:∀h' tk,(∀c o,s.heap.get? c=some o->h'.get? c=some o)->Q none { s with heap:=h',toks:=tk }):wpAny (model prog w) A (getAttr? (.ref a) "keys") Q E s:=by
 obtain⟨hp,g,d,tk,os⟩:=s;have hT:∀tk',(⟨hp,g,d,tk',os⟩:Shared).TypeIs (.ref a) "list" := λ_=>⟨_,hx,rfl⟩;have f1:=sub_AttributeError;have f3:=F.slot_list_getattribute.lookup;have f4:=F.slot_list_getattribute.bind (.ref a);have f5:=gm;unfold getAttr? getAttrBy? getAttrBy
 repeat (any_goals (first|assumption|exact hT _|((with_reducible show wpAny _ _ (call (Value.builtin "list.__getattribute__") _ _) _ _ _);refine call_meets F.slot_list_getattribute (hT _) d6 (F.args_list_getattribute_2 _ _) (hZ a xs m sl _) ⟨hx,hA,λh' tk' e hx'=>?_⟩)|wp_step))
 obtain⟨t',u',he⟩:=hx'.there;show wpAny _ _ (getattributeRaised _ _ _ _ _ _ _) _ _ _;unfold getattributeRaised
 repeat (any_goals (first|assumption|wp_step))
 all_goals exact h _ _ hx'.keeps
end
section
variable {prog:Program} {w:World} {K:Type} [DecidableEq K] {knd:KeyKind prog w K} {A:Around} {R:Result->Shared->Prop}
def ir (h:Heap) (xs:Array Value) (ka va:Nat->Value) (it d:Addr):Prop:=∀k,k<xs.size->∃(T:Addr) (o:Obj) (n:Nat),xs[k]?=some (.ref T)/\h.get? T=some o/\o.cls=.type "tuple" /\ o.data=.seq #[ka k,va k] n/\T≠it/\T≠d
theorem ir.keep {h h':Heap} {xs:Array Value} {ka va:Nat->Value} {it d:Addr} (p:ir h xs ka va it d) (hk:∀c o,c≠it->c≠d->h.get? c=some o->h'.get? c=some o):ir h' xs ka va it d:=λk hlt =>
 let ⟨T,o,n,e1,e2,e3,e4,e5,e6⟩:=p k hlt;⟨T,o,n,e1,hk T o e5 e6 e2,e3,e4,e5,e6⟩
theorem pX {it l d:Addr} {xs:Array Value} {ka va:Nat->Value} (nid:d≠it) (nil:l≠it) (ndl:l≠d) (hh:A.handled=none) (ks:Nat->K) (hk:∀k,k<xs.size->knd.is (ks k) (ka k)=true) (hsz:xs.size<=sizeLine) :
  ∀(m k:Nat) (i:Int) (s:Shared) (kvs:List (K × Value)),xs.size-k=m->k<=xs.size->s.heap.IsListIter it l k->s.heap.IsList l xs->ir s.heap xs ka va it d->s.heap.DictOf knd d kvs->kvs.length<=k ->
  (∀h' tk,h'.DictOf knd d (fj kvs ((List.range (xs.size-k)).map λj=>(ks (k+j),va (k+j))))->(∀c o,c≠it->c≠d->s.heap.get? c=some o->h'.get? c=some o)->R (.ok (.ret .none)) { s with heap:=h',toks:=tk }) ->
  codeAny (model prog w) A (.builtin "dict.update.loop" ⟨[.ref d,.ref it,rawInt i,.none],[]⟩) R s:=by
 intro m
 induction m with
 | zero =>
  intro k i s kvs hm hkk hit hl hp hd hkl hR;have hin:k=xs.size:=by exact Ax hm hkk
  refine XF kh ?_;rw[Xs fk _];show wpAny _ A.in1 (pyNext (.ref it) >>= _) _ _ s;refine Qa (wpAny_pyNext_list_end (show A.in1.handled=none from hh) hit hl (by rw[hin];simp) λh' hkeep=>?_);show wpAny _ _ (Builtin.Dict.addKeywords d [] >>= _) _ _ _;refine Qa (Qf (Qf ?_))
  have hd':h'.DictOf knd d kvs:=by
   obtain⟨o,es,ep,e1,r⟩:=hd;exact⟨o,es,ep,hkeep d o nid e1,r⟩
  refine hR h' s.toks ?_ λc o c1 _ e=>hkeep c o c1 e;rw[hm];exact hd'
 | succ m ih =>
 intro k i s kvs hm hkk hit hl hp hd hkl hR;have hlt:k<xs.size:=by exact Aw hm hkk
 obtain⟨T,oT,n,hx,hT,hTc,hTd,nTi,nTd⟩:=hp k hlt;refine XF kh ?_;rw[Xs fk _];show wpAny _ A.in1 (pyNext (.ref it) >>= _) _ _ s;refine Qa (wpAny_pyNext_list_item hit hl hx λh1 hit1 hs1=>?_);have k1:∀c o,c≠it->s.heap.get? c=some o->h1.get? c=some o:=λc o n1 e=>hs1.extBut c o n1 e
 have hd1:h1.DictOf knd d kvs:=by
  obtain⟨o,es,ep,e1,r⟩:=hd;exact⟨o,es,ep,k1 d o nid e1,r⟩
 have hT1:=k1 T oT nTi hT;refine Qa (QZ ?_);have hTy:(Shared.TypeIs { s with heap:=h1 } (.ref T) "tuple"):=⟨_,hT1,hTc⟩;refine Qa (wpAny_tryCatch ?_);unfold Builtin.Dict.pairItems;refine Qa (wpAny_typeOf hTy ?_);rw[Qs (by decide)];refine Qa (XQ hT1 hTd (Qf ?_));show wpAny _ _ (holding [ka k,va k] (dictSet d (ka k) (va k))) _ _ _;refine QZ (wpAny_dictSet_pairs (hk k hlt) hd1 (λh2 hd2 hs2=>?_) (by exact Av hsz hkl hlt));have k2:∀c o,c≠it->c≠d->s.heap.get? c=some o->h2.get? c=some o:=λc o n1 n2 e=>hs2.extBut c o n2 (k1 c o n1 e);refine Qf ⟨plainId_quiet fk _,ih (k+1) (i+1) _ _ (by exact Au hm hlt) (by exact As hlt) (hit1.extBut hs2.extBut (Ne.symm nid)) (hl.at λo e=>k2 l o nil ndl e) (hp.keep k2) hd2 (QJ (oN _ _ _) (by exact Bb hkl)) λh3 tk hd3 hk3=>?_⟩;refine hR h3 tk ?_ λc o c1 c2 e=>hk3 c o c1 c2 (k2 c o c1 c2 e);rw[show xs.size-k=(xs.size-(k+1))+1 from by exact Ar hm hlt,List.range_succ_eq_map,Qw,Q3];have e:(List.range (xs.size-(k+1))).map (λj=>(ks (k+1+j),va (k+1+j)))=(List.range (xs.size-(k+1))).map ((λj=>(ks (k+j),va (k+j)))∘Nat.succ):=XS λj _=>by simp[Function.comp,Nat.add_assoc,Nat.add_comm 1]
 rw[e]at hd3;exact hd3
variable {Q E:B0}
theorem p7 {s:Shared} {l:Addr} {xs:Array Value} {ka va:Nat->Value} (hh:A.handled=none) (ks:Nat->K) (hk:∀k,k<xs.size->knd.is (ks k) (ka k)=true) (hsz:xs.size<=sizeLine) (hl:PlainL s.heap l xs)
  (hp:∀k,k<xs.size->∃(T:Addr) (o:Obj) (n:Nat),xs[k]?=some (.ref T)/\s.heap.get? T=some o/\o.cls=.type "tuple" /\ o.data=.seq #[ka k,va k] n)
  (h:∀h' tk,h'.DictOf knd s.heap.objs.size (fj [] ((List.range xs.size).map λj=>(ks j,va j)))->(∀c o,s.heap.get? c=some o->h'.get? c=some o)->Q (.ref s.heap.objs.size) { s with heap:=h',toks:=tk }) :
  wpAny (model prog w) A (call (.type "dict") [.ref l]) Q E s:=by
 refine callType_codes (Q₁:=λobj s1=>obj=.ref s.heap.objs.size/\s1={ s with heap:=s.heap.push { cls:=.type "dict", data:=.dict #[] } }) oh (hV _) F.entry_dict_init (jA _ ⟨rfl,rfl⟩) ?_;rintro obj s1 ⟨rfl,rfl⟩;have up:∀c o,s.heap.get? c=some o->(s.heap.push { cls:=.type "dict", data:=.dict #[] }).get? c=some o:=λc o e=>Qc _ e;have hnew:(s.heap.push { cls:=.type "dict", data:=.dict #[] }).DictOf knd s.heap.objs.size []:=Heap.DictOf.new s.heap;have lt:∀{c o},s.heap.get? c=some o->s.heap.objs.size≠c:=λe=>Nat.ne_of_gt (Qq e);obtain⟨⟨c0,d0,dt0,sl0⟩,n0,ho,hoc,hod,hos⟩:=hl;have hoc:c0=.type "list" := hoc;have hod:d0=none:=hod;have hos:dt0=.seq xs n0:=hos;subst hoc hod hos;refine⟨hnew.typeIs,F.args_dict_init_2 _ _,?_⟩;unfold Builtin.«dict.__init__»;refine Qa ?_;unfold Builtin.Dict.selfAndRest;refine Qa (wpAny_notOrdered_dict hnew.typeIs ?_);show wpAny _ _ (pure (s.heap.objs.size,[Value.ref l])) _ _ _;refine Qf ?_;show wpAny _ _ (Builtin.Dict.updateFrom "dict.__init__" s.heap.objs.size (.ref l) [] .none) _ _ _;unfold Builtin.Dict.updateFrom;have hzT:Shared.TypeIs { s with heap:=s.heap.push { cls:=.type "dict", data:=.dict #[] } } (.ref l) "list" := ⟨_,up _ _ ho,rfl⟩;refine Qa (wpAny_typeOf hzT ?_);rw[Qs (by decide)];refine Qa (pO (up _ _ ho) (show A.in1.in1.handled=none from hh) λh3 tk k3=>?_);simp only[Option.isNone_none,if_true];refine Qa (wpAny_rule ?_);have hL3:h3.IsList l xs:=⟨_,k3 _ _ (up _ _ ho),rfl,n0,rfl⟩
 have hd3:h3.DictOf knd s.heap.objs.size []:=by
  obtain⟨o,es,ep,e1,r⟩:=hnew;exact⟨o,es,ep,k3 _ _ e1,r⟩
 obtain⟨od,es,ep,hd3',r3⟩:=id hd3;refine Qa (wpAny_pyIter_list hL3 ?_);refine Qf ⟨plainId_quiet fk _,?_⟩;have up4:∀c o,h3.get? c=some o->(h3.push { cls:=.type "list_iterator", data:=.fields #[.ref l,.int 0 0] }).get? c=some o:=λc o e=>Qc _ e;have lt3:∀{c o},h3.get? c=some o->c≠h3.objs.size:=λe=>QB (Qq e);refine pX (it:=h3.objs.size) (l:=l) (d:=s.heap.objs.size) (ka:=ka) (va:=va) (lt3 hd3') (lt3 (k3 _ _ (up _ _ ho))) (lt ho).symm (show A.in1.handled=none from hh) ks hk hsz xs.size 0 0 _ [] (by simp) (QR _) ⟨_,Qt _ rfl,rfl,rfl⟩ (hL3.at λo e=>up4 _ o e) (λk hlt=>?_) ⟨od,es,ep,up4 _ _ hd3',r3⟩ (Qg _) λh5 tk5 hd5 hk5=>?_
 ·obtain⟨T,o,n,e1,e2,e3,e4⟩:=hp k hlt;exact⟨T,o,n,e1,up4 _ _ (k3 _ _ (up _ _ e2)),e3,e4,lt3 (k3 _ _ (up _ _ e2)),(lt e2).symm⟩
 refine⟨rfl,h h5 tk5 (by simpa using hd5) λc o e=>hk5 c o (lt3 (k3 _ _ (up _ _ e))) (lt e).symm (up4 _ _ (k3 _ _ (up _ _ e)))⟩
end
end LZ
namespace L2
open PySem PySem.Spec PyProof.Rows
def tE (H:Hp) (v:V) (p:Str × V):Prop:=∃b,v=.ref b/\H b=some (.tup [.str p.1,p.2])
def d4 (ps:List (Str × V)):List (Key × V):=ps.map λp=>((Sum.inr p.1:Key),p.2)
section
variable {X:Cx} {a:Expr} {ta:TA} {p1 pos1:Pos}
def qr (K:PySem.W.Frag) (ta:TA):TE:=λU H Q=>ta U H λvs H1=>∃l xs ps,vs=[.ref l]/\SqL K H1 l xs/\xs.length<10000/\Paired (tE H1) xs ps/\∀d,H1 d=none->Q (.ref d) (upd H1 d (.dK (ca [] (d4 ps))))
theorem ye {H:Hp}:∀{xs:List V} {ps:List (Str × V)},Paired (tE H) xs ps->∀(j:Nat) x,xs[j]?=some x->∃y,ps[j]?=some y/\tE H x y
 | _,_,.nil=>λj x e=>by simp at e
 | _,_,.cons (a:=a) (b:=b) h t=>λj x e=>by
  cases j with
  | zero=>simp at e;subst e;exact⟨_,rfl,h⟩
  | succ j=>simp at e;obtain⟨y,e',f⟩:=ye t j x e;exact⟨y,by simpa using e',f⟩
theorem uB {H:Hp}:∀{xs:List V} {ps:List (Str × V)},Paired (tE H) xs ps->xs.length=ps.length
 | _,_,.nil=>rfl
 | _,_,.cons h t=>by simp[uB t]
theorem jR (hc:X.calm=true) (hg:Gl X "dict") (hm:X.mg "dict" = none) (ha:PA X [a] ta) (hs:starEach [a] X.env=[(false,eval a X.env)]:=by rfl):PE X (.Call (.Name "dict" p1) [a] [] pos1) (qr X.K ta):=by
 intro pins s U H Q I h;refine Call_ (cL I hg hm PyProof.Rows.boot_dict (Xd (thn (ha pos1 pins s U H _ I h) λus s1 ⟨vs,H1,I1,r1,q1⟩=>?_) hs rfl));obtain⟨l,xs,ps,e,hl,hsm,hpr,q⟩:=q1;subst e;obtain⟨u1,e,ru1⟩:=cZ r1;subst e;cases ru1;obtain⟨its,rv,pl,_⟩:=I1.list hl;have hits:its.length=xs.length:=rv.length.symm;have hps:=uB hpr;have big:10000<sizeLine:=by decide
 have each:∀k,∃g:Value × Value × Str,k<its.length->∃(T:Addr) (o:Obj) (m:Nat) (v:V) (t:Tok),its[k]?=some (.ref T)/\s1.heap.get? T=some o/\o.cls=.type "tuple" /\ o.data=.seq #[g.1,g.2.1] m/\g.1=.str g.2.2 t/\ps[k]?=some (g.2.2,v)/\aL v g.2.1:=λk=>by
  by_cases hk:k<its.length
  ·have hx:xs[k]?=some (xs[k]'(by exact om3 hits hps hk)):=by simp
   obtain⟨y,hy,b,eb,hb⟩:=ye hpr k _ hx;obtain⟨u,hu,ru⟩:=rv.get hx;rw[eb]at ru;cases ru;obtain⟨its2,rv2,⟨o,e1,e2,n,e3⟩,_⟩:=I1.tuple (SqT.of hb);obtain⟨w1,w2,e4,r1,r2⟩:=lV rv2;subst e4;obtain⟨t,et⟩:=r1;subst et;exact⟨(.str y.1 t,w2,y.1),λ_=>⟨b,o,n,y.2,t,hu,e1,e2,e3,rfl,hy,r2⟩⟩
  exact⟨(.none,.none,Str.empty),λh=>absurd h hk⟩
 let g:=λk=>Classical.choose (each k);have hg':∀k,k<its.length->∃(T:Addr) (o:Obj) (m:Nat) (v:V) (t:Tok),its[k]?=some (.ref T)/\s1.heap.get? T=some o/\o.cls=.type "tuple" /\ o.data=.seq #[(g k).1,(g k).2.1] m/\(g k).1=.str (g k).2.2 t/\ps[k]?=some ((g k).2.2,v)/\aL v (g k).2.1:=λk=>Classical.choose_spec (each k);refine LZ.p7 (knd:=ax X.prog X.w) (l:=l) (xs:=its.toArray) (ka:=λk=>(g k).1) (va:=λk=>(g k).2.1) (I1.ok.hd hc) (λk=>(Sum.inr (g k).2.2:Key)) (λk hk=>?_) (by rw[Ql,hits];omega) pl (λk hk=>?_) λh3 tk hd3 kept=>?_
 ·rw[Ql]at hk;obtain⟨T,o,m,v,t,_,_,_,_,e5,_⟩:=hg' k hk;show (ax X.prog X.w).is _ (g k).1=true;rw[e5];exact gY _ _ _ _
 ·rw[Ql]at hk;obtain⟨T,o,m,v,t,e1,e2,e3,e4,_⟩:=hg' k hk;exact⟨T,o,m,by simpa using e1,e2,e3,e4⟩
 rw[Ql]at hd3
 have kv:KV (d4 ps) ((List.range its.length).map λj=>((Sum.inr (g j).2.2:Key),(g j).2.1)):=by
  unfold d4;refine paired_get (by simp[hits,hps]) λj x y e1 e2=>?_;rw[Qp]at e1 e2
  have hj:j<its.length:=by
   cases e:(List.range its.length)[j]? with
   | none=>rw[e]at e2;cases e2
   | some q=>have:=(Qd.mp e).1;simpa using this
  obtain⟨T,o,m,v,t,_,_,_,_,_,e6,e7⟩:=hg' j hj;rw[e6]at e1;rw[List.getElem?_range hj]at e2;cases e1;cases e2;exact⟨rfl,e7⟩
 have hnew:H1 s1.heap.objs.size=none:=I1.hok.fresh (Qg _)
 have I3:Inv X pins U (upd H1 s1.heap.objs.size (.dK (ca [] (d4 ps)))) { s1 with heap:=h3,toks:=tk }:=I1.laid kept (Qg _) ⟨by
   have:=fJ (d4 ps) [];have e:(d4 ps).length=ps.length:=by unfold d4;simp
   simp only[List.length_nil]at this
   omega,beq_eq_false_iff_ne.mpr (by
   have:@LT.lt Nat _ sysModules s1.heap.objs.size:=I1.big;intro e;have e':@Eq Nat s1.heap.objs.size sysModules:=e
   omega),_,vq kv .nil,hd3⟩
 exact⟨.ref s1.heap.objs.size,_,I3,rfl,q _ hnew⟩
end
end L2
namespace LS
open PySem PySem.Spec PyProof.Rows
def Led (w:World) (t:SetTable) (n:Nat):Prop:=w.params.followText "set-order" = true\/(t.led=true/\(n≠0->t.plain=false))
theorem rW (t:SetTable) (n:Nat):(t.orStandIn n).led=t.led/\(t.plain=false->(t.orStandIn n).plain=false):=by
 unfold SetTable.orStandIn
 split
 ·exact⟨rfl,id⟩
 exact⟨rfl,λ_=>rfl⟩
theorem pM (t:SetTable) (es:Array (Int × Value)) (h:Int) (x:Value):(layNew t es h x).2.1.led=t.led/\(t.plain=false->(layNew t es h x).2.1.plain=false):=by
 unfold layNew
 split
 ·exact rW (t.put _).1 _
 exact⟨rfl,λ_=>rfl⟩
theorem vn {m f v:Nat} {l p:Bool} {hs:Array Int} {t:SetTable} {o:Array Nat} (h:SetTable.laid m f v l p hs=some (t,o)):t.led=l/\t.plain=p:=by
 unfold SetTable.laid at h
 cases e:SetTable.layClean m hs with
 | none=>rw[e]at h;cases h
 | some ow=>rw[e]at h;cases h;exact⟨rfl,rfl⟩
theorem r9 (t:SetTable) (es:Array (Int × Value)) (n:Nat):(relayAll t es n).2.1.led=t.led/\(t.plain=false->(relayAll t es n).2.1.plain=false):=by
 unfold relayAll
 split
 ·rename_i t' o e
  obtain⟨e1,e2⟩:=vn e;dsimp only
  split
  ·exact⟨e1,λz=>e2.trans z⟩
  exact⟨rfl,λ_=>rfl⟩
 exact⟨rfl,λ_=>rfl⟩
def cY (prog:Program) (w:World) (h:Heap) (a:Addr) (S:Str->Bool) (n:Nat):Prop:=∃o es ep t,h.get? a=some o/\o.ExactSet/\o.data=.set es ep t/\ElemsOf (strKind prog w) es.toList/\(∀k,S k=true↔∃e∈es.toList,(strKind prog w).is k e.2=true)/\es.size<scanBound/\t.fits es.size=true/\es.size=n/\Led w t es.size
section
variable {prog:Program} {w:World} {A:Around} {E:B0} {s:Shared} {a:Addr} {S:Str->Bool} {n:Nat}
variable {es' es:Array (Int × Value)}
theorem cY.put {h:Heap} {o:Obj} {ep:Nat} {t:SetTable} (ho:h.get? a=some o) (hex:o.ExactSet) (hd:o.data=.set es ep t) {t':SetTable}
  (hel:ElemsOf (strKind prog w) es'.toList) (hm:∀k,S k=true↔∃e∈es'.toList,(strKind prog w).is k e.2=true) (hb:es'.size<scanBound) (hf:t'.fits es'.size=true) (hn:es'.size=n) (hl:Led w t' es'.size) :
  (h.update a (Obj.putSet es' t')).get? a=some { o with data:=.set es' (ep+1) t' }/\cY prog w (h.update a (Obj.putSet es' t')) a S n:=by
 obtain⟨g,_⟩:=SetOf_store (knd:=strKind prog w) ho hex hd hel hm hb hf;exact⟨g,_,es',ep+1,t',g,hex,rfl,hel,hm,hb,hf,hn,hl⟩
theorem xJ {k:Str} {tok:Tok} {Q:Bool->Shared->Prop} (hS:cY prog w s.heap a S n) (hroom:n+1<scanBound)
  (h:∀h' b,Heap.SameBut a s.heap h'->cY prog w h' a (λk'=>S k' || decide (k'=k)) (if S k then n else n+1)->Q b { s with heap:=h' }) :
  wpAny (model prog w) A (setAddHashed a (.str k tok) ((strKind prog w).hash k)) Q E s:=by
 obtain⟨o,es,ep,t,ho,hex,hd,hel,hm,hb,hf,hn,hl⟩:=hS;have hkey:(strKind prog w).is k (.str k tok)=true:=strKind_is _ _ _ _;have hsc:(Value.str k tok).scannable=true:=rfl;unfold setAddHashed setAddHashedIn;refine QZ (Qa (Xw ho hd hf ?_));dsimp only;rw[byScan_of hsc hb hel];simp only[↓reduceIte];unfold setAddByScan;refine Qa (Qa (wpAny_rule (Qa (wpAny_setScan_of hkey ho hd hf hel ?_))))
 cases hr:List.findIdx? (λe=>(strKind prog w).is k e.2) es.toList with
 | some j =>
  dsimp only;obtain⟨hj,hpj,_⟩:=List.findIdx?_eq_some_iff_getElem.mp hr;have hk:S k=true:=(hm k).mpr ⟨_,Q9 hj,hpj⟩;refine Qf (Qf (h s.heap _ (Heap.SameBut.refl a s.heap) ⟨o,es,ep,t,ho,hex,hd,hel,λk'=>?_,hb,hf,by rw[hk];exact hn,hl⟩));rw[Bool.or_eq_true,decide_eq_true_eq,<-hm k'];exact⟨λz=>z.elim id λe=>e▸hk,.inl⟩
 | none =>
 dsimp only
 have hk:S k=false:=by
  cases hk:S k with
  | false=>rfl
  | true=>obtain⟨e,he,hp⟩:=(hm k).mp hk;have:=List.findIdx?_eq_none_iff.mp hr e he;rw[hp]at this;exact Bool.noConfusion this
 have hperm:=layNew_perm t es ((strKind prog w).hash k) (.str k tok);have hfits:=layNew_fits t es ((strKind prog w).hash k) (.str k tok);obtain⟨l1,l2⟩:=pM t es ((strKind prog w).hash k) (.str k tok);generalize hL:layNew t es ((strKind prog w).hash k) (.str k tok)=L at hperm hfits l1 l2 ⊢;obtain⟨es1,t1,wasDummy,gave⟩:=L;dsimp only at hperm hfits l1 l2 ⊢;rw[Array.toList_push]at hperm;have hel1:=(hel.push hkey hsc).perm hperm;have hm1:∀k',(S k' || decide (k'=k))=true↔∃e∈es1.toList,(strKind prog w).is k' e.2=true:=mem_push_iff hkey hm hperm;have hz:es1.size=n+1:=by rw[<-Qi,hperm.length_eq,Qh,Qi,hn];rfl
 have hb1:es1.size<scanBound:=by rw[hz];exact hroom
 rw[hk]at h
 have tail:∀(t2:SetTable) (s1:Shared) (g:Bool->Sem Unit),(∀(b:Bool) (s₁:Shared) (Q':Unit->Shared->Prop),Q' () s₁->wpAny (model prog w) A (g b) Q' E s₁)->s1=s->t2.fits es1.size=true->Led w t2 es1.size ->
   wpAny (model prog w) A (do
    storeSet a es1 t2
    if (!wasDummy&&t2.tooFull)=true then do
      g (relayAll t2 es1 (SetTable.grown es1.size)).2.2
      storeSet a (relayAll t2 es1 (SetTable.grown es1.size)).1 (relayAll t2 es1 (SetTable.grown es1.size)).2.1
      pure (some true)
     else pure (some true)) (λr s'=>∃h' b,r=some b/\s'={ s with heap:=h' }/\Heap.SameBut a s.heap h'/\cY prog w h' a (λk'=>S k' || decide (k'=k)) (n+1)) E s1:=λt2 s1 g hg e f2 d2=>by
  subst e;refine Qa (wpAny_storeSet_of ho hd ?_ (fits_of_scanBound hb1));obtain⟨ho1,q1⟩:=cY.put ho hex hd hel1 hm1 hb1 f2 hz d2;have k1:=Xa s1.heap a (Obj.putSet es1 t2)
  split
  ·have hp:=relayAll_perm t2 es1 (SetTable.grown es1.size);have hfr:=relayAll_fits t2 es1 (SetTable.grown es1.size);obtain⟨r1,r2⟩:=r9 t2 es1 (SetTable.grown es1.size);generalize hRl:relayAll t2 es1 (SetTable.grown es1.size)=Rl at hp hfr r1 r2 ⊢;obtain⟨es2,t3,gave2⟩:=Rl;dsimp only at hp hfr r1 r2 ⊢;have hz2:es2.size=es1.size:=by rw[<-Qi,hp.length_eq,Qi]
   refine Qa (hg _ _ _ (Qa (wpAny_storeSet_of ho1 rfl ?_ (fits_of_scanBound (by rw[hz2];exact hb1)))))
   obtain⟨_,q2⟩:=cY.put (S:=λk'=>S k' || decide (k'=k)) (n:=n+1) ho1 hex rfl (hel1.perm hp) (λk'=>(hm1 k').trans ⟨λ⟨e,he,q⟩=>⟨e,hp.mem_iff.mpr he,q⟩,λ⟨e,he,q⟩=>⟨e,hp.mem_iff.mp he,q⟩⟩) (by rw[hz2];exact hb1) hfr (hz2.trans hz)
    (d2.imp id λz=>⟨r1.trans z.1,λy=>r2 (z.2 (by rw[<-hz2];exact y))⟩)
   exact Qf ⟨_,true,rfl,rfl,k1.trans (Xa _ a _),q2⟩
  exact Qf ⟨_,true,rfl,rfl,k1,q1⟩
 have fin:∀(r:Option Bool) (s':Shared),(∃h' b,r=some b/\s'={ s with heap:=h' }/\Heap.SameBut a s.heap h'/\cY prog w h' a (λk'=>S k' || decide (k'=k)) (n+1))->∃h' b,r=some b/\s'={ s with heap:=h' }/\Q b s':=λr s' ⟨h',b,e1,e2,e3,e4⟩=>⟨h',b,e1,e2,by rw[e2];exact h h' b e3 (by simpa using e4)⟩
 have gw:∀(b:Bool) {s₁:Shared} {Q':Unit->Shared->Prop},Q' () s₁->wpAny (model prog w) A (match b with|true=>rule "set.scan.the-table-gave-way" | false=>pure ()) Q' E s₁ :=
  λb s₁ Q' hq=>by cases b <;> first|exact Qf hq|exact wpAny_rule hq
 refine Qa (gw _ ?_)
 split
 ·refine Qa ?_;rw[hashByValue_scannable 8 hsc];refine Qf ?_;refine XT (tail _ s _ ?_ rfl ?_ ?_) (λr s' z=>?_) λ_ _ z=>z
  ·intro b s₁ Q' hq;cases b <;> first|exact Qf hq|exact wpAny_rule hq
  ·exact SetTable.fits_plain_off hfits
  ·exact hl.imp id λz=>⟨l1.trans z.1,λ_=>rfl⟩
  obtain⟨h',b,rfl,rfl,q⟩:=fin r s' z;exact Qf q
 rename_i hp
 refine Qa (Qf ?_);simp only[↓reduceIte];refine XT (tail _ s _ ?_ rfl hfits ?_) (λr s' z=>?_) λ_ _ z=>z
 ·intro b s₁ Q' hq;cases b <;> first|exact Qf hq|exact wpAny_rule hq
 ·exact hl.imp id λz=>⟨l1.trans z.1,λ_=>by simpa using hp⟩
 obtain⟨h',b,rfl,rfl,q⟩:=fin r s' z;exact Qf q
theorem cY.congr {h:Heap} {S':Str->Bool} {m:Nat} (q:cY prog w h a S n) (e:∀k,S k=S' k) (f:n=m):cY prog w h a S' m:=by
 obtain⟨o,es,ep,t,h1,h2,h3,h4,h5,h6,h7,h8,h9⟩:=q;exact⟨o,es,ep,t,h1,h2,h3,h4,λk=>by rw[<-e k];exact h5 k,h6,h7,h8.trans f,h9⟩
abbrev bare (led:Bool):Obj:={ cls:=.type "set", dict:=none,data:=.set #[] 0 (.fresh 0 0 led) }
theorem cY.bare {h:Heap} (g:h.get? a=some (bare !(w.params.followText "set-order"))):cY prog w h a (λ_=>false) 0 :=
 ⟨_,#[],0,_,g,⟨rfl,rfl,rfl⟩,rfl,fun e he=>by simp at he,fun k=>by simp,by decide,rfl,rfl,by
  unfold Led
  cases e:w.params.followText "set-order" with
  | true=>exact .inl rfl
  | false=>exact .inr ⟨rfl,λz=>absurd rfl z⟩⟩
theorem n9 (x:Value) {Q₁:B0} (h:Q₁ (.ref s.heap.objs.size) { s with heap:=s.heap.push (LS.bare !(w.params.followText "set-order")) }) :
  codeAny (model prog w) A (.call (.builtin "set.__new__") ⟨[.type "set", x],[]⟩) (wants Q₁ E) s:=by
 refine codeAny_of_tree ?_;show wpAny _ A.in1 (do checkBuiltinCall "set.__new__" ⟨[.type "set", x],[]⟩;again (.builtin "set.__new__" ⟨[.type "set", x],[]⟩)) _ _ s;refine Qa (wpAny_of_eq (F.newCall_set_1 x) (Qf ⟨plainId_quiet F.plain_set_new _,XF F.entry_set_new ?_⟩));rw[Xs F.plain_set_new _];unfold Builtin.«set.__new__» Builtin.Frozenset.newClass;have hsub:=sub_set_self;obtain⟨hp,g,d,tk,os⟩:=s;dsimp only
 wp_walk
 refine wpAny_askSetting (Qf ?_);dsimp only;simp only[newObj];exact Qa (wpAny_alloc (Qf (Qf h)))
end
theorem cx:Slot "set_iterator" "__next__" "set_iterator.__next__" :=
 .of (owner := "set_iterator") (n := "__next__") (by rw[typeLookup_type,builtinLookup_eq_fast];kernel_rfl) (by decide +kernel) (by decide +kernel) (by decide +kernel)
  (by first|exact .inl (by decide +kernel)|exact .inr (by decide +kernel)) (by rw[isSubtype_type];kernel_rfl)
theorem f7:Slot "set_iterator" "__iter__" "set_iterator.__iter__" :=
 .of (owner := "set_iterator") (n := "__iter__") (by rw[typeLookup_type,builtinLookup_eq_fast];kernel_rfl) (by decide +kernel) (by decide +kernel) (by decide +kernel)
  (by first|exact .inl (by decide +kernel)|exact .inr (by decide +kernel)) (by rw[isSubtype_type];kernel_rfl)
theorem jy:entryFor table "set_iterator.__next__" = some Builtin.«set_iterator.__next__»:=entryFor_of_tree (by kernel_rfl)
theorem jz:entryFor table "set_iterator.__iter__" = some Builtin.«dict_keyiterator.__iter__»:=entryFor_alias (id' := "dict_keyiterator.__iter__") (by kernel_rfl) rfl (by decide +kernel) (by kernel_rfl)
theorem i_:entryFor table "set.__iter__" = some Builtin.«frozenset.__iter__»:=entryFor_alias (id' := "frozenset.__iter__") (by kernel_rfl) rfl (by decide +kernel) (by kernel_rfl)
theorem mT:Manifest.owners.lookup (String.ofList ['r','o','t','a','r','e','t','i','_','t','e','s'].reverse)=some Manifest.sig_set_iterator:=by kernel_rfl
theorem lN (a:Value):argsOk "set_iterator.__next__" ⟨[a],[]⟩:=by
 unfold argsOk;rw[signature?_of (id := "set_iterator.__next__") (n:=['_','_','t','x','e','n','_','_']) (o:=['r','o','t','a','r','e','t','i','_','t','e','s']) (by kernel_rfl) mT];kernel_rfl
theorem lO (a:Value):argsOk "set_iterator.__iter__" ⟨[a],[]⟩:=by
 unfold argsOk;rw[signature?_of (id := "set_iterator.__iter__") (n:=['_','_','r','e','t','i','_','_']) (o:=['r','o','t','a','r','e','t','i','_','t','e','s']) (by kernel_rfl) mT];kernel_rfl
def fh (h:Heap) (it a:Addr) (first:Value) (i n ep:Nat):Prop:=∃o,h.get? it=some o/\o.cls=.type "set_iterator" /\ o.data=.fields #[first,.int i 0,.ref a,.int n 0,.int ep 0]
def dP (h:Heap) (a:Addr) (es:Array (Int × Value)) (ep:Nat) (t:SetTable):Prop:=∃o,h.get? a=some o/\o.data=.set es ep t/\o.cls=.type "set" /\ t.fits es.size=true
section
variable {prog:Program} {w:World} {A:Around} {E:B0} {s:Shared} {a it:Addr} {es:Array (Int × Value)} {ep:Nat} {t:SetTable} {i:Nat} {first:Value}
variable {n:Nat}
theorem fh.typeIs (h:fh s.heap it a first i n ep):s.TypeIs (.ref it) "set_iterator" := let ⟨o,ho,hc,_⟩:=h;⟨o,ho,hc⟩
theorem fh.at {h h':Heap} (x:fh h it a first i n ep) (e:∀o,h.get? it=some o->h'.get? it=some o):fh h' it a first i n ep:=let ⟨o,ho,r⟩:=x;⟨o,e _ ho,r⟩
theorem dP.at {h h':Heap} (x:dP h a es ep t) (e:∀o,h.get? a=some o->h'.get? a=some o):dP h' a es ep t:=let ⟨o,ho,r⟩:=x;⟨o,e _ ho,r⟩
theorem lB {Q:B0} (hit:fh s.heap it a first i n ep) (h:Q (.ref it) s):wpAny (model prog w) A (pyIter (.ref it)) Q E s:=by
 refine wpAny_pyIter_slot hit.typeIs f7 (Q4 f7 hit.typeIs jz ?_ (lO _));show wpAny _ _ (ret (.ref it)) _ _ s;exact Qf ⟨_,rfl, "set_iterator", _,hit.typeIs,cx.lookup,h⟩
variable {Q:Option Value->Shared->Prop}
theorem ik (hit:fh s.heap it a first i n ep) (h:wpAny (model prog w) A.in1 (Builtin.«set_iterator.__next__» ⟨[.ref it],[]⟩) (λfin s'=>∃v,fin=Fin.done (Flow.ret v)/\wpAny (model prog w) A (pure (some v)) Q E s')
   (λe s'=>wpAny (model prog w) A (isInstance e (Value.type "StopIteration") >>= λb=>if b=true then pure none else throw e) Q E s') s):wpAny (model prog w) A (pyNext (.ref it)) Q E s :=
 Qa (wpAny_attempt (Xh (name:=Str.ofString "__next__") hit.typeIs cx (Q4 cx hit.typeIs jy h (lN _))))
theorem tV {h1:Heap} (hh:A.handled=none) (k:Heap.ExtBut it s.heap h1) (h:∀h',Heap.ExtBut it s.heap h'->Q none { s with heap:=h' }) :
  wpAny (model prog w) A.in1 (PySem.newExc (Value.type "StopIteration") [] >>= λe=>raiseNew (α:=Fin) e) (λfin s'=>∃v,fin=Fin.done (Flow.ret v)/\wpAny (model prog w) A (pure (some v)) Q E s')
   (λe s'=>wpAny (model prog w) A (isInstance e (Value.type "StopIteration") >>= λb=>if b=true then pure none else throw e) Q E s') { s with heap:=h1 }:=by
 refine Qa ?_;simp only[PySem.newExc,newTuple];refine Qa (Xi ?_ (by size_fits));refine Qa (m:=firstArgMember _ _) (wpAny_of_eq (a:=Value.none) (by first|rfl|(simp only[firstArgMember];rfl)) ?_);refine Xi ?_ (by size_fits);simp only[raiseNew];refine Qa (wpAny_handled ?_);rw[show A.in1.handled=none from hh];refine Qa (Qf (wpAny_throw ?_));refine Qa (wpAny_isInstance (T := "StopIteration") (b:=true) ⟨_,Qt _ rfl,rfl⟩ isSubtype_stop ?_);exact Qf (h _ ((k.push _).push _))
theorem jY {slot next:Nat} {x:Value} (hit:fh s.heap it a (.int slot 0) i es.size ep) (hs:dP s.heap a es ep t)
  (hw:∀(Q:Option (Value × Nat)->Shared->Prop) (E:B0),Q (some (x,next)) s->wpAny (model prog w) A.in1 (setNext a slot i ep) Q E s)
  (h:∀h',fh h' it a (.int next 0) (i+1) es.size ep->Heap.SameBut it s.heap h'->Q (some x) { s with heap:=h' }):wpAny (model prog w) A (pyNext (.ref it)) Q E s:=by
 obtain⟨o,ho,hc,hd⟩:=id hit;obtain⟨os,hos,hds,_,hf⟩:=id hs;refine ik hit ?_;unfold Builtin.«set_iterator.__next__»;refine Qa (Qf (Qa (wpAny_fieldsOf ho hd ?_)));dsimp only;refine Qa (wpAny_setEntries_of hos hds hf ?_);rw[Qo (by simp)];refine Qa (hw _ _ ?_);dsimp only;refine Qa (wpAny_setField ho hd (by simp) ?_);have h1:=Xm (Obj.mapFields (·.setIfInBounds 0 (rawInt (next:Int)))) ho (Obj.isFreed_of_fields (XJ hd _));have d1:=XJ hd (·.setIfInBounds 0 (rawInt (next:Int)));refine Qa (wpAny_setField h1 d1 (by simp) ?_);refine Qf ⟨_,rfl,Qf (h _ ⟨_,Xm _ h1 (Obj.isFreed_of_fields (XJ d1 _)),(Obj.cls_mapFields ..).trans ((Obj.cls_mapFields ..).trans hc),by rw[XJ d1];simp[rawInt]⟩ ((Xa ..).trans (Xa ..)))⟩
theorem jZ {slot:Nat} (hh:A.handled=none) (hit:fh s.heap it a (.int slot 0) i es.size ep) (hs:dP s.heap a es ep t)
  (hw:∀(Q:Option (Value × Nat)->Shared->Prop) (E:B0),Q none s->wpAny (model prog w) A.in1 (setNext a slot i ep) Q E s)
  (h:∀h',Heap.ExtBut it s.heap h'->Q none { s with heap:=h' }):wpAny (model prog w) A (pyNext (.ref it)) Q E s:=by
 obtain⟨o,ho,hc,hd⟩:=id hit;obtain⟨os,hos,hds,_,hf⟩:=id hs;refine ik hit ?_;unfold Builtin.«set_iterator.__next__»;refine Qa (Qf (Qa (wpAny_fieldsOf ho hd ?_)));dsimp only;refine Qa (wpAny_setEntries_of hos hds hf ?_);rw[Qo (by simp)];refine Qa (hw _ _ ?_);dsimp only;refine Qa (wpAny_setField ho hd (by simp) ?_);exact tV hh (Xa ..).extBut h
theorem pU {tp:Addr} {pl:List Nat} {p:Nat} {e:Int × Value} (hit:fh s.heap it a (.ref tp) i es.size ep) (hs:dP s.heap a es ep t) (ht:s.heap.get? tp=some { cls:=.type "tuple", data:=.seq (pl.map λ(i:Nat)=>rawInt i).toArray })
  (hp:pl[i]?=some p) (he:es[p]?=some e) (h:∀h',fh h' it a (.ref tp) (i+1) es.size ep->Heap.SameBut it s.heap h'->Q (some e.2) { s with heap:=h' }):wpAny (model prog w) A (pyNext (.ref it)) Q E s:=by
 obtain⟨o,ho,hc,hd⟩:=id hit;obtain⟨os,hos,hds,_,hf⟩:=id hs;refine ik hit ?_;unfold Builtin.«set_iterator.__next__»;refine Qa (Qf (Qa (wpAny_fieldsOf ho hd ?_)));dsimp only;refine Qa (wpAny_setEntries_of hos hds hf ?_);rw[Qo (by simp)];refine Qa (XQ ht rfl ?_);dsimp only;rw[show (List.map (λ(i:Nat)=>rawInt (i:Int)) pl).toArray[(i:Int).toNat]?=some (rawInt (p:Int)) by rw[Q7,List.getElem?_toArray,Qp,hp];rfl];dsimp only[rawInt];unfold setNextDrawn;refine Qa (Qa (Xw hos hds hf ?_));dsimp only;rw[Qo (by simp),Q7,he];refine Qa (Qf (Qf ?_));refine Qa (wpAny_setField ho hd (by simp) ?_);exact Qf ⟨_,rfl,Qf (h _ ⟨_,Xm _ ho (Obj.isFreed_of_fields (XJ hd _)),(Obj.cls_mapFields ..).trans hc,by rw[XJ hd];simp⟩ (Xa ..))⟩
theorem pV {tp:Addr} {pl:List Nat} (hh:A.handled=none) (hit:fh s.heap it a (.ref tp) i es.size ep) (hs:dP s.heap a es ep t) (ht:s.heap.get? tp=some { cls:=.type "tuple", data:=.seq (pl.map λ(i:Nat)=>rawInt i).toArray })
  (hp:pl[i]?=none) (h:∀h',Heap.ExtBut it s.heap h'->Q none { s with heap:=h' }):wpAny (model prog w) A (pyNext (.ref it)) Q E s:=by
 obtain⟨o,ho,hc,hd⟩:=id hit;obtain⟨os,hos,hds,_,hf⟩:=id hs;refine ik hit ?_;unfold Builtin.«set_iterator.__next__»;refine Qa (Qf (Qa (wpAny_fieldsOf ho hd ?_)));dsimp only;refine Qa (wpAny_setEntries_of hos hds hf ?_);rw[Qo (by simp)];refine Qa (XQ ht rfl ?_);dsimp only;have en:(List.map (λ(i:Nat)=>rawInt (i:Int)) pl).toArray[(i:Int).toNat]?=none:=by rw[Q7,List.getElem?_toArray,Qp,hp,Option.map_none]
 rw[en];dsimp only;refine Qa (wpAny_setField ho hd (by simp) ?_);have h1:=Xm (Obj.mapFields (·.setIfInBounds 0 (rawInt 0))) ho (Obj.isFreed_of_fields (XJ hd _));have d1:=XJ hd (·.setIfInBounds 0 (rawInt 0));refine Qa (wpAny_setField h1 d1 (by simp) ?_);have k2:Heap.ExtBut it s.heap ((s.heap.update it (Obj.mapFields (·.setIfInBounds 0 (rawInt 0)))).update it (Obj.mapFields (·.setIfInBounds 2 .none))):=((Xa s.heap it _).trans (Xa _ it _)).extBut;exact tV (s:=s) (it:=it) (h1:=(s.heap.update it (Obj.mapFields (·.setIfInBounds 0 (rawInt 0)))).update it (Obj.mapFields (·.setIfInBounds 2 .none))) hh k2 h
end
end LS
set_option maxHeartbeats 1000000
namespace DR
open PySem PySem.Spec PyProof.Rows
abbrev At (h:Heap) (d:Addr) (es:Array DictEntry) (ep:Nat):Prop:=h.get? d=some { cls:=.type "dict", data:=.dict es ep }
abbrev IAt (h:Heap) (it d:Addr) (i n ep:Nat):Prop:=h.get? it=some { cls:=.type "dict_keyiterator", data:=.fields #[.ref d,.int i 0,.int n 0,.int ep 0] }
theorem Ao:(if Builtin.Dict_items.ownsTuple ((Manifest.find? "dict_keyiterator").elim "dict_keyiterator" λx=>x.tpName)=true then 2 else 0)=0:=by rw[find?_eq_fast];kernel_rfl
section
variable {prog:Program} {w:World} {A:Around} {E:B0} {s:Shared} {d it:Addr} {es:Array DictEntry} {ep i:Nat}
theorem iter {Q:B0} (hd:(d==sysModules)=false) (hm:At s.heap d es ep)
  (hQ:Q (.ref s.heap.objs.size) { s with heap:=s.heap.push { cls:=.type "dict_keyiterator", data:=.fields #[.ref d,.int 0 0,.int es.size 0,.int ep 0] } }):wpAny (model prog w) A (pyIter (.ref d)) Q E s:=by
 have hT:s.TypeIs (.ref d) "dict" := ⟨_,hm,rfl⟩;refine wpAny_pyIter_slot hT F.slot_dict_iter (Q4 F.slot_dict_iter hT F.entry_dict_iter ?_ (F.args_dict_iter_1 _));unfold Builtin.«dict.__iter__» Builtin.Dict.dictSlotNone Builtin.Dict.showsAll
 wp_walk
 exact⟨_,rfl, "dict_keyiterator", _,⟨_,Qt _ rfl,rfl⟩,X9.lookup,hQ⟩
variable {Q:Option Value->Shared->Prop}
theorem nxt (hit:IAt s.heap it d i es.size ep) (hm:At s.heap d es ep) (hi:i<es.size)
  (hQ:∀h',IAt h' it d (i+1) es.size ep->Heap.SameBut it s.heap h'->Q (some es[i].key) { s with heap:=h' }):wpAny (model prog w) A (pyNext (.ref it)) Q E s:=by
 have hT:s.TypeIs (.ref it) "dict_keyiterator" := ⟨_,hit,rfl⟩;refine Qa (wpAny_attempt (Xh (name:=Str.ofString "__next__") hT X9 (Q4 X9 hT F.entry_dict_keyiterator_next ?_ (F.args_dict_keyiterator_next_1 _))));unfold Builtin.«dict_keyiterator.__next__»
 wp_walk
 have e:(if (i:Int)<0 then none else es[(i:Int).toNat]?)=some es[i]:=by rw[Qo (by omega),Q7];simp[hi]
 rw[e];dsimp only;have m1:=mroOf_keyiter
 wp_walk
 rw[Ao,Qo (by decide +kernel)];exact⟨_,rfl,Qf (hQ _ ((Xm _ hit rfl).trans (by simp[Obj.mapFields,rawInt])) (Xa ..))⟩
theorem stp (hh:A.handled=none) (hit:IAt s.heap it d i es.size ep) (hm:At s.heap d es ep) (hi:es.size<=i)
  (hQ:∀h',Heap.ExtBut it s.heap h'->Q none { s with heap:=h' }):wpAny (model prog w) A (pyNext (.ref it)) Q E s:=by
 have hT:s.TypeIs (.ref it) "dict_keyiterator" := ⟨_,hit,rfl⟩;refine Qa (wpAny_attempt (Xh (name:=Str.ofString "__next__") hT X9 (Q4 X9 hT F.entry_dict_keyiterator_next ?_ (F.args_dict_keyiterator_next_1 _))));unfold Builtin.«dict_keyiterator.__next__»
 wp_walk
 have e:(if (i:Int)<0 then none else es[(i:Int).toNat]?)=none:=by rw[Qo (by omega),Q7];simp[hi]
 rw[e];dsimp only;have m1:=mroOf_keyiter;generalize hN:setField=SF
 wp_walk
 subst hN;refine wpAny_setField hit rfl (by rw[Ao];simp) ?_;exact LS.tV hh (Xa ..).extBut hQ
theorem self {Q:B0} {n:Nat} (hit:IAt s.heap it d i n ep) (h:Q (.ref it) s):wpAny (model prog w) A (pyIter (.ref it)) Q E s:=wpAny_pyIter_keyiter ⟨_,hit,rfl,rfl⟩ h
theorem xO (hh:A.handled=none) (I d:Addr) (hne:d≠I) (es:Array DictEntry) (ep:Nat):Walks prog w A I [I,d] [I] es.size (λi v=>∃e,es[i]?=some e/\v=e.key) (λi h=>IAt h I d i es.size ep/\At h d es ep) where
 sub:=λb hb=>by simp at hb;simp[hb]
 frame:=λ_ _ _ st hk=>⟨hk I (by simp) _ st.1,hk d (by simp) _ st.2⟩
 item:=λi s Q E hi st hQ=>nxt st.1 st.2 hi λh' hit' hs'=>hQ _ h' s.toks ⟨es[i],by simp[hi],rfl⟩ ⟨hit',hs'.extBut d _ hne st.2⟩ λb o hb e=>hs'.extBut b o (λh=>hb (by simp[h])) e
 done:=λs Q E st hQ=>stp hh st.1 st.2 (Qg _) λh' he'=>hQ h' s.toks λb o hb e=>he' b o (λh=>hb (by simp[h])) e
 self:=λ_ _ _ _ st hQ=>self st.1 hQ
theorem src (lo:(d==sysModules)=false):PySem.W.KdlSrc prog w "dict" d d es.size (λi v=>∃e,es[i]?=some e/\v=e.key) (λh=>At h d es ep) where
 type:=λ_ hm=>⟨_,hm,rfl⟩
 there:=λ_ h=>⟨Qq h,Qq h⟩
 keep:=λ_ _ hm hk=>hk d (.inl rfl) _ hm
 notList:=by decide
 notTuple:=by decide
 hint:=λ_ _ _ _ hm hq=>PySem.W.kdl_hint_dict ⟨_,hm,rfl⟩ hq
 iter:=λ_ _ hh hm=>⟨_,_,(λ_ _ hq=>iter lo hm hq),xO hh _ d (QB (Qq hm)) es ep,⟨Qt _ rfl,Qc _ hm⟩⟩
end
end DR
namespace L2
open PySem PySem.Spec PyProof.Rows
variable {H H':Hp}
theorem KIt.inj {x y:Key ⊕ List Key} {v:V} (h1:KIt H x v) (h2:KIt H y v):x=y:=by
 cases x with
 | inl k =>
  cases h1
  cases y with
  | inl j=>rw[vC (show kV k=kV j from h2)]
  | inr js=>obtain⟨c,e,_⟩:=h2;cases k <;> cases e
 | inr ks =>
 obtain⟨c,rfl,h1⟩:=h1
 cases y with
 | inl j=>have e:V.ref c=kV j:=h2;cases j <;> cases e
 | inr js =>
 obtain⟨c2,e,h2⟩:=h2;cases e;rw[h1]at h2;cases lu (HO.tup.inj (QF h2));rfl
variable {b a:Addr} {x y:aB}
theorem bS.inj (h1:bS H x b) (h2:bS H y b):x=y:=by
 obtain⟨vs,e1,p1⟩:=h1;obtain⟨us,e2,p2⟩:=h2;rw[e1]at e2;cases HO.tup.inj (QF e2);clear e1 e2
 induction p1 generalizing y with
 | nil=>cases p2;rfl
 | cons q _ ih=>cases p2 with
  | cons q2 t2=>rw[q.inj q2,ih t2]
abbrev KsA (H:Hp) (bs:B3) (ks:List aB):Prop:=Paired (λb k=>bS H k b) bs ks
theorem KsA.keeps {bs:B3} {ks:List aB} (h:KsA H bs ks) (ht:∀b xs,H b=some (.tup xs)->H' b=some (.tup xs)):KsA H' bs ks:=Paired.mapT h λ_ _ z=>z.keeps ht
open Classical in
noncomputable def du (H:Hp) (b:Addr):aB:=if h:∃k,bS H k b then h.choose else []
theorem qm {k:aB} (h:bS H k b):du H b=k:=by
 unfold du;rw[dif_pos ⟨k,h⟩];exact(Exists.choose_spec (p:=λk=>bS H k b) ⟨k,h⟩).inj h
theorem KsA.tk {bs:B3} {ks:List aB} (h:KsA H bs ks):ks=bs.map (du H)/\∀b∈bs,bS H (du H b) b:=by
 induction h with
 | nil=>exact⟨rfl,λb hb=>nomatch hb⟩
 | cons q _ ih =>
 rw[Qw,qm q];refine⟨by rw[<-ih.1],λb hb=>?_⟩;rcases Qj.mp hb with rfl|hb
 ·rw[qm q];exact q
 exact ih.2 b hb
theorem pN {H:Hp}:∀{bs:B3},(∀b∈bs,bS H (du H b) b)->KsA H bs (bs.map (du H))
 | [],_=>.nil
 | b::bs,h=>.cons (h b (by simp)) (pN λc hc=>h c (Qn _ hc))
theorem gL:∀(cs:B3),aQ (cs.map V.ref) (cs.map Value.ref)
 | []=>.nil
 | _::cs=>.cons rfl (gL cs)
theorem fN:∀{cs:B3} {us:List Value},aQ (cs.map V.ref) us->us=cs.map Value.ref
 | [],_,r=>by
  rw[List.map_nil]at r;cases r;rfl
 | c::cs,_,r=>by
  rw[Qw]at r
  cases r with
  | cons r1 r2=>rw[fN r2,Qw];cases (show _=Value.ref c from r1);rfl
theorem jO {ys:List Value} {l:B3} (h:ys.Perm (l.map Value.ref)):∃l':B3,l'.Perm l/\ys=l'.map Value.ref:=by
 let f:Value->Addr:=λv=>match v with
  | .ref a=>a
  | _=>0
 have e:∀l:B3,(l.map Value.ref).map f=l:=λl=>by rw[Q3];exact List.map_id _
 refine⟨ys.map f,by have:=h.map f;rwa [e]at this,?_⟩;rw[Q3];refine(List.map_id _).symm.trans (XS λv hv=>?_);obtain⟨a,_,rfl⟩:=Qm.mp (h.mem_iff.mp hv);rfl
section
variable {P:Program} {w:World} {H:Hp} {h:Heap} {a:Addr}
theorem lH {kvs:List (aB × V)} (ok:HOk P w H h) (e:Rd H a (.dT kvs)):(a==sysModules)=false/\kvs.length<=sizeLine/\∃(es:Array DictEntry) (ep:Nat) (bs:B3),DR.At h a es ep/\es.toList.map (·.key)=bs.map Value.ref/\KsA H bs (kvs.map (·.1)):=by
 obtain⟨z,y,xs,r,o,es,ep,h1,h2,h3,h4,h5⟩:=(show be P w H h a (.dT kvs) from uq ok e);refine⟨y,z,es,ep,xs.map (·.2.1),?_,by rw[h4,Q3,Q3];rfl,?_⟩
 ·obtain⟨c,d,dt,sl⟩:=o;obtain⟨e1,e2,e3⟩:=h2;dsimp only at e1 e2 e3 h3;subst e1 e2 e3 h3;exact h1
 clear h4 h5 z e
 induction r with
 | nil=>exact .nil
 | cons q _ ih=>exact .cons q.2.1 ih
end
def Bk (K:PySem.W.Frag) (H:Hp) (l:Addr) (ks:List aB):Prop:=(∃bs:B3,SqL K H l (bs.map V.ref)/\KsA H bs ks)\/∃kvs,Rd H l (.dT kvs)/\kvs.map (·.1)=ks
def v_ (b:Bool) (ks:List aB):Prop:=(∀x∈ks,∀y∈ks,x.map Tm.sh2=y.map Tm.sh2)/\∀x∈ks,if b=true then ∃k r,x=.inl (.inr k)::r else ∃k r,x=.inr k::r
abbrev leF (x y:aB):Prop:=Tm.leK (Tm.flat x) (Tm.flat y)
def ut (K:PySem.W.Frag):List V->Hp->VK->Prop:=λxs H Q=>∃(l:Addr) (ks:List aB) (b:Bool),xs=[.ref l]/\Bk K H l ks/\v_ b ks/\ks.length<64 /\
 ∀(p:Addr) (bs':B3) (ks':List aB),H p=none->KsA H bs' ks'->ks'.Perm ks->ks'.Pairwise leF->Q (.ref p) (upd H p (.lst (bs'.map V.ref)))
section
variable {X:Cx}
theorem jk (hc:X.calm=true) (hu:X.A.units+8<cLine):dG X (.builtin "sorted") (ut X.K):=by
 intro pins s U H xs us Q I r h;obtain⟨l,ks,b,rfl,src,sp,hz,q⟩:=h;obtain⟨u,rfl,ru⟩:=cZ r;cases ru
 have main:∀bs:B3,KsA H bs ks->(∀(A:Around) (E:B0) (R:List Value->Shared->Prop),A.handled=none->(∀h' tk vs,(∀b o,s.heap.get? b=some o->h'.get? b=some o)->s.heap.objs.size<=h'.objs.size->vs=bs.map Value.ref->R vs { s with heap:=h',toks:=tk })->wpAny (model X.prog X.w) A (collect (.ref l)) R E s) ->
   wpAny (model X.prog X.w) X.A (call (.builtin "sorted") [.ref l]) (EP X pins U Q) X.xe s:=λbs ka col=>by
  obtain⟨ek,tk⟩:=ka.tk;have bl:bs.length=ks.length:=by rw[ek,Qb]
  have mem:∀{c},c∈bs->du H c∈ks:=λhc=>by rw[ek];exact Qm.mpr ⟨_,hc,rfl⟩
  refine Tm.rX (s:=s) (up:=λA=>A.units<cLine) (κ:=λ_=>Tm.nE bs (du H)) (kd:=tuples' b) (G:=λ_ vs=>vs=bs.map Value.ref) col (I.ok.hd hc) (show X.A.units+1+1<cLine by omega) (λh' vs D k g hD=>?_) (λD h' tk' vs h1 out m k1 g1 k2 hle hD at' p1 p2=>?_)
  ·subst g;refine⟨by rw[Qb,bl];exact hz,Tm.og (o:=seqObj "list" (bs.map Value.ref).toArray 0) (by rw[hD];exact Qt _ rfl) (λz=>absurd (Value.type.inj z) (by decide)) (λc hc=>?_) ⟨λa ha c hc=>sp.1 _ (mem ha) _ (mem hc),λa ha=>sp.2 _ (mem ha)⟩⟩;exact Tm.cw (dC I.hok (tk c hc)) λb o e _=>Qc _ (k _ _ e)
  subst g1;obtain⟨bs',pm,eo⟩:=jO p1;rw[eo,Xv]at p2;have tk':∀b∈bs',bS H (du H b) b:=λb hb=>tk b (pm.mem_iff.mp hb)
  have so:(bs'.map (du H)).Pairwise leF:=by
   rw[Xv];refine p2.imp_of_mem λ{a c} ha hc hq=>?_;have hq:Tm.lb (((Tm.nE bs (du H)).keyOf (.ref c)).getD []) (((Tm.nE bs (du H)).keyOf (.ref a)).getD [])=false:=hq;rw[Tm.gq _ (pm.mem_iff.mp ha),Tm.gq _ (pm.mem_iff.mp hc)]at hq;exact hq
  refine⟨.ref D,_,I.laid (o:=.lst (bs'.map V.ref)) (t':=_) (λb o g=>k2 b o (k1 b o g)) hle ⟨by rw[Qb,pm.length_eq,bl,XZ];omega,out.toList,m,by rw[eo];exact gL _,by rw[Array.toArray_toList];exact at'⟩,rfl,q _ bs' _ (I.hok.fresh hle) (pN tk') (by rw[ek];exact pm.map _) so⟩
 rcases src with⟨bs,hl,ka⟩|⟨kvs,rd,ek⟩
 ·obtain⟨its,rv,pl,_⟩:=I.list hl;refine main bs ka λA E R _ hR=>collect_list pl.isList (hR _ _ its (λb o e=>?_) (by rw[Heap.size_update,size_push'];exact X3 _) (fN rv)) (by rw[<-rv.length,Qb,Xr ka,XZ];omega);exact(Xq _ _ (Nat.ne_of_gt (Qq e))).trans (Qc _ e)
 obtain⟨y,z,es,ep,bs,da,ee,ka⟩:=lH I.hok rd;rw[ek]at ka
 have ez:es.size=ks.length:=by
  have:=congrArg List.length ee;rw[Qb,Qb,Qi]at this;rw[this,Xr ka]
 refine main bs ka λA E R hA hR=>Tm.v0 (DR.src (es:=es) (ep:=ep) y) hA da (by rw[ez,XZ];omega) λh' tk acc k z it=>hR h' tk acc.toList k z ?_;rw[<-ee];refine List.ext_getElem? λj=>?_;rw[Qp];by_cases hj:j<es.size
 ·have ha:j<acc.size:=by rw[it.1];exact hj
  obtain⟨e,e1,e2⟩:=it.2 j acc[j] (QM ha);rw[Q6,Q6,QM ha,e1,e2];rfl
 rw[QY (by rw[Qi,it.1];omega),QY (by rw[Qi];omega)];rfl
end
def vOf:Value->V
 | .none=>.non
 | .bool b=>.bl b
 | .int i _=>.int i
 | .str x _=>.str x
 | .bytes b _=>.byt b
 | .float b _=>.flt b
 | .ref a=>.ref a
 | .type n=>.ty n
 | _=>.non
theorem oE {x:V} {u:Value} (r:aL x u):vOf u=x:=by
 cases x with
 | int i=>obtain⟨t,rfl⟩:=r;rfl
 | str z=>obtain⟨t,rfl⟩:=r;rfl
 | byt b=>obtain⟨t,rfl⟩:=r;rfl
 | flt b=>obtain⟨t,rfl⟩:=r;rfl
 | _=>cases r;rfl
theorem lU:∀{xs:List V} {us:List Value},aQ xs us->us.map vOf=xs
 | _,_,.nil=>rfl
 | _,_,.cons r t=>by rw[Qw,oE r,lU t]
theorem rK {xs:List V} {us:List Value} (r:aQ xs us) (e:V->Bool):us.any (λu=>e (vOf u))=xs.any e:=by rw[<-lU r,List.any_map];rfl
section
variable {X:Cx}
theorem EqD.mems {pins:B1} {U:St} {H:Hp} {s:Shared} (I:Inv X pins U H s) {A:Around} (hu:A.units+8<cLine) {x:V} {v:Value} (rx:aL x v) {e:V->Bool}:∀{xs:List V} {us:List Value},aQ xs us->(∀y∈xs,EqD X.K H 8 y x (e y))->∀u∈us,SeqAt.EqAt A s u v (e (vOf u))
 | _,_,.nil,_=>λu hu=>by cases hu
 | y::xs,u::us,.cons r t,f=>λu' hu'=>by
  rcases Qj.mp hu' with rfl|hu'
  ·rw[oE r];exact EqD.at I (f y (by simp)) hu r rx
  exact EqD.mems I hu rx t (λy hy=>f y (Qn _ hy)) u' hu'
def yT (K:PySem.W.Frag) (neg:Bool):R2:=λx y H Q=>∃(p:Addr) (ys:List V) (e:V->Bool),y=.ref p/\(SqL K H p ys\/SqT K H p ys)/\(∀v∈ys,EqD K H 8 v x (e v))/\Q (.bl (if neg then !(ys.any e) else ys.any e)) H
theorem zc (hu:X.A.units+64<cLine):OpR X (compareOp .In) (yT X.K false):=by
 intro pins s U H x y v u Q I rx ry h;obtain⟨p,xs,e,rfl,hq,f,q⟩:=h;cases ry;have hu':X.A.in1.units+8<cLine:=show X.A.units+1+8<cLine by omega
 rcases hq with hq|hq
 ·obtain⟨its,r,pl,hz⟩:=I.list hq;refine SeqAt.in_listAt (λu=>e (vOf u)) pl.isList (λw hw=>EqD.mems I hu' rx r f w (by simpa using hw)) ⟨.bl _,H,I,rfl,?_⟩;rw[show its.toArray.any (λu=>e (vOf u))=its.any (λu=>e (vOf u)) by simp,rK r];exact q
 obtain⟨its,r,pl,hz⟩:=I.tuple hq;refine SeqAt.in_tupleAt (λu=>e (vOf u)) pl (λw hw=>EqD.mems I hu' rx r f w (by simpa using hw)) ⟨.bl _,H,I,rfl,?_⟩;rw[show its.toArray.any (λu=>e (vOf u))=its.any (λu=>e (vOf u)) by simp,rK r];exact q
def qP (K:PySem.W.Frag):V->List V->Hp->VK->Prop:=λx vs H Q=>∃(l:Addr) (ys:List V) (y:V) (e:V->Bool) (j:Nat) (z:V),x=.ref l/\vs=[y]/\SqL K H l ys/\(∀v∈ys,EqD K H 8 v y (e v))/\ys[j]?=some z/\e z=true/\(∀m v,m<j->ys[m]?=some v->e v=false)/\Q (.int j) H
theorem dh (hu:X.A.units+64<cLine):MtR X "list.index" (qP X.K):=by
 intro pins s U H x vs v us Q I rx rv h;obtain⟨l,ys,y,e,j,z,rfl,rfl,hl,f,hj,ez,no,q⟩:=h;cases rx;obtain⟨u,rfl,ru⟩:=cZ rv;obtain⟨its,r,pl,hz⟩:=I.list hl;obtain⟨o,ho,hc,n,hd⟩:=pl.isList;obtain⟨ocls,odict,odata,oslots⟩:=o;dsimp only at hc hd;subst hc hd;have hu':X.A.in1.units+8<cLine:=show X.A.units+1+8<cLine by omega
 obtain⟨w1,hw1,rw1⟩:=r.get hj;have hjl:=(Qd.mp hw1).1
 have at_:∀m (hm:m<its.toArray.size),∃v,ys[m]?=some v/\vOf its.toArray[m]=v:=λm hm=>by
  have hm:m<its.length:=by simpa using hm
  have hm2:m<ys.length:=by rw[r.length];exact hm
  obtain⟨w,hw,rw'⟩:=r.get (Qe hm2);rw[Qe hm]at hw;cases hw;exact⟨_,Qe hm2,oE rw'⟩
 refine call_meets F.slot_list_index ⟨_,ho,rfl⟩ F.entry_list_index (F.args_list_index_2 _ _) (SeqAt.list_indexAt l its.toArray n odict oslots u (λu=>e (vOf u)) j (by simpa using hjl) ?_ ?_ (λm hm hmj=>?_)) ⟨ho,?_,?_⟩
 ·rw[XZ]at hz;have:=(Qd.mp hj).1;omega
 ·obtain⟨v,hv,ev⟩:=at_ j (by simpa using hjl);rw[hj]at hv;cases hv;rw[ev];exact ez
 ·obtain⟨v,hv,ev⟩:=at_ m hm;rw[ev];exact no m v hmj hv
 ·exact λw hw=>EqD.mems I hu' ru r f w (by simpa using hw)
 exact⟨.int j,H,I.tok _,⟨_,rfl⟩,q⟩
end
theorem rB (a b:Key) (h:Tm.sh1 a=Tm.sh1 b):eqV (kV a) (kV b)=decide (a=b):=by
 cases a with
 | inl i=>cases b with
  | inl j=>rw[vz];rfl
  | inr y=>cases h
 | inr x=>cases b with
  | inl j=>cases h
  | inr y =>
   rw[vv];show (x==y)=_;by_cases e:x=y
   ·subst e;simp
   rw[Qu e];exact beq_eq_false_iff_ne.mpr e
theorem ip (k:Key):bY (kV k)=true:=by cases k <;> rfl
variable {n ep:Nat}
theorem xx {K:PySem.W.Frag} {x y:List Key} (ha:H a=some (.tup (x.map kV))) (hb:H b=some (.tup (y.map kV))) (e:x.map Tm.sh1=y.map Tm.sh1):EqD K H (n+1) (.ref a) (.ref b) (decide (x=y)):=by
 have len:x.length=y.length:=by have:=congrArg List.length e;simpa using this
 by_cases c:a=b
 ·subst c;rw[ha]at hb;cases lu (HO.tup.inj (QF hb));rw[Qv rfl];exact .same
 have q:=EqD.tups (K:=K) (n:=n) (e:=λj=>decide (x[j]?=y[j]?)) (SqT.of ha) (SqT.of hb) (λj u v e1 e2=>?_) c
 ·have:((List.range (min (x.map kV).length (y.map kV).length)).all (λj=>decide (x[j]?=y[j]?))&&(x.map kV).length==(y.map kV).length)=decide (x=y):=by
   rw[Qb,Qb,len,Nat.min_self,beq_self_eq_true,Bool.and_true,XR,QT,XB]
   constructor
   ·intro h;refine List.ext_getElem? λj=>?_;by_cases hj:j<y.length
    ·exact Xu (h j (Xx.mpr hj))
    rw[QY (by omega),QY (by omega)]
   rintro rfl j _;simp
  rw[this]at q;exact q
 rw[Qp]at e1 e2;obtain⟨k1,h1,rfl⟩:=Q8.mp e1;obtain⟨k2,h2,rfl⟩:=Q8.mp e2;have s:=congrArg (·[j]?) e;simp only[Qp,h1,h2]at s;have s:Tm.sh1 k1=Tm.sh1 k2:=QF s;rw[h1,h2,show decide (some k1=some k2)=decide (k1=k2) by simp,<-rB _ _ s];exact .flat (ip _) (ip _)
theorem i3 {H:Hp}:∀{k:aB} {vs:List V} {j:Nat} {v:V},Paired (KIt H) k vs->vs[j]?=some v->∃x,k[j]?=some x/\KIt H x v
 | _,_,_,_,.nil,e=>by simp at e
 | _,_,0,_,.cons r _,e=>by simp at e;subst e;exact⟨_,rfl,r⟩
 | _,_,j+1,_,.cons _ t,e=>by obtain⟨x,h1,h2⟩:=i3 (j:=j) t (by simpa using e);exact⟨x,by simpa using h1,h2⟩
theorem zE {K:PySem.W.Frag} {k1 k2:Key ⊕ List Key} {u v:V} (r1:KIt H k1 u) (r2:KIt H k2 v) (s:Tm.sh2 k1=Tm.sh2 k2):EqD K H (n+1) u v (decide (k1=k2)):=by
 cases k1 with
 | inl k1=>cases k2 with
  | inr _=>cases s
  | inl k2 =>
   cases r1;cases r2;have s:Tm.sh1 k1=Tm.sh1 k2:=Sum.inl.inj s;rw[show decide ((Sum.inl k1:Key ⊕ List Key)=Sum.inl k2)=decide (k1=k2) by simp,<-rB _ _ s];exact .flat (ip _) (ip _)
 | inr k1=>cases k2 with
  | inl _=>cases s
  | inr k2 =>
   obtain⟨c1,rfl,r1⟩:=r1;obtain⟨c2,rfl,r2⟩:=r2;have s:k1.map Tm.sh1=k2.map Tm.sh1:=Sum.inr.inj s;rw[show decide ((Sum.inr k1:Key ⊕ List Key)=Sum.inr k2)=decide (k1=k2) by simp];exact xx r1 r2 s
theorem v8 (len:x.length=y.length):((List.range y.length).all λj=>decide (x[j]?=y[j]?))=decide (x=y):=by
 rw[XR,QT,XB]
 constructor
 ·intro h;refine List.ext_getElem? λj=>?_;by_cases hj:j<y.length
  ·exact Xu (h j (Xx.mpr hj))
  rw[QY (by omega),QY (by omega)]
 rintro rfl j _;simp
theorem vD {K:PySem.W.Frag} {vs us:List V} (p1:Paired (KIt H) x vs) (p2:Paired (KIt H) y us) (e:x.map Tm.sh2=y.map Tm.sh2) (j:Nat) (u v:V) (e1:vs[j]?=some u) (e2:us[j]?=some v):EqD K H (n+1) u v (decide (x[j]?=y[j]?)):=by
 obtain⟨k1,g1,r1⟩:=i3 p1 e1;obtain⟨k2,g2,r2⟩:=i3 p2 e2;have s:=congrArg (·[j]?) e;simp only[Qp,g1,g2]at s;rw[g1,g2,show decide (some k1=some k2)=decide (k1=k2) by simp];exact zE r1 r2 (QF s)
theorem zD {K:PySem.W.Frag} (ha:bS H x a) (hb:bS H y b) (e:x.map Tm.sh2=y.map Tm.sh2):EqD K H (n+2) (.ref a) (.ref b) (decide (x=y)):=by
 have len:x.length=y.length:=by have:=congrArg List.length e;simpa using this
 by_cases c:a=b
 ·subst c;rw[ha.inj hb,Qv rfl];exact .same
 obtain⟨vs,h1,p1⟩:=ha;obtain⟨us,h2,p2⟩:=hb;have l1:=Xr p1;have l2:=Xr p2;have q:=EqD.tups (K:=K) (n:=n+1) (e:=λj=>decide (x[j]?=y[j]?)) (SqT.of h1) (SqT.of h2) (vD p1 p2 e) c;rwa [<-l1,<-l2,len,Nat.min_self,beq_self_eq_true,Bool.and_true,v8 len]at q
theorem AR {K:PySem.W.Frag} {neg:Bool} {Q:VK} (ha:bS H x a) (hb:bS H y b) (e:x.map Tm.sh2=y.map Tm.sh2) (q:Q (.bl (if neg=true then !decide (x=y) else decide (x=y))) H):r_ K neg (.ref a) (.ref b) H Q:=by
 have len:x.length=y.length:=by have:=congrArg List.length e;simpa using this
 obtain⟨vs,h1,p1⟩:=ha;obtain⟨us,h2,p2⟩:=hb;have l1:=Xr p1;have l2:=Xr p2;refine⟨a,b,vs,us,λj=>decide (x[j]?=y[j]?),rfl,rfl,SqT.of h1,SqT.of h2,vD p1 p2 e,?_⟩;rw[<-l1,<-l2,len,Nat.min_self,beq_self_eq_true,Bool.and_true,v8 len];exact q
def wa (a:Addr) (o:Obj) (kvs:List (aB × V)):It :=
 ⟨λi H=>H a=some (.frz o (.dT kvs))/\i<kvs.length,λi H x H'=>H'=H/\∃k v b,kvs[i]?=some (k,v)/\x=.ref b/\bS H k b,λi H=>H a=some (.frz o (.dT kvs))/\kvs.length<=i⟩
theorem lF {X:Cx} {pins:B1} {U:St} {s:Shared} {o:Obj} {es:Array DictEntry} {kvs:List (aB × V)} (I:Inv X pins U H s) (h:H a=some (.frz o (.dT kvs))) (hd:o={ cls:=.type "dict", data:=.dict es ep }) :
  (a==sysModules)=false/\DR.At s.heap a es ep/\es.size=kvs.length/\∃bs:B3,es.toList.map (·.key)=bs.map Value.ref/\KsA H bs (kvs.map (·.1)):=by
 obtain⟨y,z,es',ep',bs,e1,e2,e3⟩:=lH I.hok (.inr ⟨o,h⟩);obtain⟨e4,_⟩:=I.hok a _ h;rw[e1,hd]at e4;cases e4;have:=congrArg List.length e2;rw[Qb,Qb,Qi,Xr e3,Qb]at this;exact⟨y,e1,this,bs,e2,e3⟩
theorem rf {H:Hp}:∀{bs:B3} {ks:List aB} {i:Nat} {k:aB},KsA H bs ks->ks[i]?=some k->∃b,bs[i]?=some b/\bS H k b
 | _,_,_,_,.nil,e=>by simp at e
 | _,_,0,_,.cons r _,e=>by simp at e;subst e;exact⟨_,rfl,r⟩
 | _,_,i+1,_,.cons _ t,e=>by obtain⟨b,h1,h2⟩:=rf (i:=i) t (by simpa using e);exact⟨b,by simpa using h1,h2⟩
theorem oJ {P:Program} {w:World} {K:PySem.W.Frag} {tg:Expr} (a it:Addr) (o:Obj) (kvs:List (aB × V)) (es:Array DictEntry) (ep:Nat) (hd:o={ cls:=.type "dict", data:=.dict es ep }):Turn P w K tg (wa a o kvs) [it] it (λi h=>DR.IAt h it a i kvs.length ep) where
 mem:=by simp
 obj:=λi h st b hb=>by
  have e:b=it:=by simpa using hb
  subst e;exact⟨_,st,λv z=>nomatch z⟩
 keep:=λi h h' st k=>k it (by simp) _ st
 item:=by
  intro X hP hw hK hc i pins s U H E I hf st hg;subst hP hw hK;obtain⟨hz,hi⟩:=hg;obtain⟨_,da,ez,bs,e2,e3⟩:=lF I hz hd;obtain⟨⟨k,v⟩,hx⟩:∃p,kvs[i]?=some p:=⟨kvs[i],by simp[hi]⟩;obtain⟨b,hb,tb⟩:=rf (i:=i) (k:=k) e3 (by rw[Qp,hx];rfl);have hi':i<es.size:=by omega
  have hk:es[i].key=.ref b:=by
   have e:=congrArg (·[i]?) e2;simp only[Qp,hb,Q6,QM hi']at e;exact QF e
  obtain⟨f0,f1,f2,f3,f4,f5⟩:=hf it (by simp);have st0:=st;rw[<-ez]at st0;refine DR.nxt st0 da hi' λh' st' sb=>?_;have I1:Inv X pins U H { s with heap:=h' }:=I.turned (t':=s.toks) (λb o hb e=>(sb.2 b hb).trans e) f0 f1 f3 f4 f5;rw[ez]at st';rw[hk];exact⟨.ref b,rfl,nM (s:={ s with heap:=h' }) st' rfl rfl (by decide) ⟨.ref b,H,I1,rfl,⟨rfl,k,v,b,hx,rfl,tb⟩,st',λb hb=>(hf b hb).1⟩⟩
 done:=by
  intro X hP hw hK hc i pins s U H E I hf st hg;subst hP hw hK;obtain⟨hz,hi⟩:=hg;obtain⟨_,da,ez,bs,e2,e3⟩:=lF I hz hd;obtain⟨f0,f1,f2,f3,f4,f5⟩:=hf it (by simp);rw[<-ez]at st;exact DR.stp (I.ok.hd hc) st da (by omega) λh' eb=>⟨rfl,I.turned (t':=s.toks) (λb o hb e=>eb b o hb e) f0 f1 f3 f4 f5⟩
 self:=λ_ _ _ _ _ st h=>DR.self st h
def zB (tl:TE):TI:=λU H R=>tl U H λx H1=>∃a o kvs,x=.ref a/\H1 a=some (.frz o (.dT kvs))/\R (wa a o kvs) H1
theorem uE {X:Cx} {tg l:Expr} {tl:TE} (hl:PE X l tl):PI X tg l (zB tl):=by
 intro pins s U H R I h;refine thn (hl pins s U H _ I h) λv s1 ⟨x,H1,I1,r1,q1⟩=>?_;obtain⟨a,o,kvs,e,hz,q⟩:=q1;subst e;cases r1;obtain⟨y,z,es,ep,bs,e1,e2,e3⟩:=lH I1.hok (.inr ⟨o,hz⟩);obtain⟨e4,_⟩:=I1.hok a _ hz;have eo:o={ cls:=.type "dict", data:=.dict es ep }:=QF (e4.symm.trans e1);obtain⟨_,_,ez,_⟩:=lF I1 hz eo;refine DR.iter y e1 ?_;refine⟨s1.heap.objs.size,[s1.heap.objs.size],_,_,H1,rfl,I1.kept (t':=s1.toks) λb o e=>Qc _ e,oJ a _ o kvs es ep eo,by rw[ez];exact Qt _ rfl,λb hb=>?_,q⟩;have e:b=s1.heap.objs.size:=by simpa using hb
 subst e;exact I1.fpOk (Qg _) (I1.hok.fresh (Qg _))
section
variable {X:Cx}
theorem tm:dG X (.builtin "len") (λxs H Q=>∃a kvs,xs=[V.ref a]/\H a=some (.dT kvs)/\Q (.int kvs.length) H):=by
 intro pins s U H xs us Q I r h;obtain⟨a,kvs,rfl,ha,q⟩:=h;obtain⟨u,rfl,ru⟩:=cZ r;cases ru;obtain⟨y,z,es,ep,bs,da,e2,e3⟩:=lH I.hok (.inl ha);have ez:=congrArg List.length e2;rw[Qb,Qb,Qi,Xr e3,Qb]at ez;have hT:s.TypeIs (.ref a) "dict" := ⟨_,da,rfl⟩;refine Calls.call_function_entry kind_len plain_len entry_len (args_len1 _) ?_;have fit:(es.size:Int)<2 ^ 63:=by rw[ez];rw[XZ]at z;omega
 refine Qa (m:=oneArg _ _) (Qf (Qa (Xh (name:=Str.ofString "__len__") hT F.slot_dict_len (Q4 F.slot_dict_len hT F.entry_dict_len ?_ (F.args_dict_len_1 _)))));unfold Builtin.«dict.__len__»
 wp_walk
 refine⟨_,rfl,?_⟩;have n0:¬((es.size:Int)+((0:Nat):Int)<0):=by omega
 have n1:¬((es.size:Int)+((0:Nat):Int)>=2 ^ 63):=by omega
 wp_walk
 rw[Qo n1]
 wp_walk
 exact⟨_,rfl,.int kvs.length,H,I.tok _,⟨s.toks+1,by rw[ez];simp⟩,q⟩
def yI (tk tv:TE):TE:=λU H Q=>∀p,H p=none->tk U (upd H p (.dT [])) λx H1=>tv U H1 λy H2=>H2 p=some (.dT [])/\∃b k,x=.ref b/\bS H2 k b/\Q (.ref p) (upd H2 p (.dT [(k,y)]))
theorem uK {k v:Expr} {pos:Pos} {tk tv:TE} (hu:X.A.units+8<cLine) (hk:PE X k tk) (hv:PE X v tv):PE X (.Dict [some k] [v] pos) (yI tk tv):=by
 intro pins s U H Q I q;have hn:=I.hok.fresh (Qg s.heap.objs.size);have I1:=I.laid (a:=s.heap.objs.size) (o:=.dT []) (h':=s.heap.push { cls:=.type "dict", data:=.dict #[] }) (t':=s.toks) (λ_ _ q=>Qc _ q) (Qg _) (nV s.heap I.big);rw[arm_eval_Dict,zip_pairTrees [some k] [v] X.env pos rfl rfl,dictDisplay_pairs (pairTrees [some k] [v] X.env pos) (by simp[pairTrees]) (by simp[pairTrees])];refine Qa (wpAny_standAt ?_);unfold subDict;refine Qa (Qa (wpAny_alloc (Qa (QZ ?_))));rw[Qs (by simp[pairTrees])];refine Qa (pairTrees_cons_walk (thn (hk pins _ U _ _ I1 (q _ hn)) λu s1 ⟨x,H1,I2,rx,q1⟩=>thn (hv pins s1 U H1 _ I2 q1) λw2 s2 ⟨y,H2,I3,ry,e,b,kk,ex,tb,q2⟩=>pairTrees_nil_walk ?_));subst ex;obtain rfl:u=.ref b:=rx;obtain⟨z,hd,xs,rel,dd⟩:=yu I3.hok e;cases rel;refine QZ ?_;rw[List.forIn_cons];dsimp only;refine Qa (Qa (Qa (wpAny_dictSet_heap (knd:=bq X.prog X.w) (show X.A.units+1<cLine by omega) (dC I3.hok tb) dd λh' dd' hs=>Qf ?_)));dsimp only;rw[List.forIn_nil];refine Qf (Qf (Qf (Qf ⟨.ref s.heap.objs.size,_,?_,rfl,q2⟩)));obtain⟨q,es,ep,hq,h2,h3,h4,_,h5⟩:=dd';refine gA I3 (by rw[e];exact True.intro) hs ⟨q,hq⟩ ⟨QJ (by simp) (show 1<=sizeLine by decide),hd,[(kk,b,w2)],.cons ⟨rfl,tb.keeps λc ys ec=>?_,ry⟩ .nil,q,es,ep,hq,h2,h3,h4,h5⟩;rw[ah (yi ec e (λz=>nomatch z))];exact ec
end
end L2
namespace Ht
open PySem PySem.SetTable
def itn {α:Type} (f:α->α):Nat->α->α
 | 0,x=>x
 | n+1,x=>itn f n (f x)
theorem dO {α:Type} (f:α->α):∀(m n:Nat) (x:α),itn f (m+n) x=itn f n (itn f m x)
 | 0,n,x=>by rw[Nat.zero_add];rfl
 | m+1,n,x=>by rw[Nat.succ_add];exact dO f m n (f x)
def Msk (m:Nat):Prop:=m=7\/m=31\/m=127
def lp (m i:Nat):Nat:=(i*5+1+0) % (m+1)
variable {m s e j i:Nat}
theorem Bh (hm:Msk m):(∀e,e<m+1->∃d,d<m+1/\itn (lp m) d 0=e)/\itn (lp m) (m+1) 0=0:=by
 rcases hm with rfl|rfl|rfl <;> exact⟨by decide +kernel,by decide +kernel⟩
theorem cyc (hm:Msk m) (hs:s<m+1) (he:e<m+1):∃d,d<m+1/\itn (lp m) d s=e:=by
 obtain⟨all,z⟩:=Bh hm;obtain⟨a,ha,rfl⟩:=all s hs;obtain⟨b,hb,rfl⟩:=all e he;by_cases c:a<=b
 ·exact⟨b-a,by omega,by rw[<-dO];congr 1;omega⟩
 refine⟨b+(m+1)-a,by omega,?_⟩;rw[<-dO,show a+(b+(m+1)-a)=(m+1)+b by omega,dO,z]
def lps (m:Nat) (x:Nat × Nat):Nat × Nat:=leap m x.1 x.2
theorem rb (m:Nat):∀n x,(itn (lps m) n x).2=x.2 / 32 ^ n
 | 0,x=>by simp[itn]
 | n+1,x=>by
  show (itn (lps m) n (lps m x)).2=_;rw[rb m n];show x.2 / 32 / 32 ^ n=_;rw[Nat.div_div_eq_div_mul,Nat.pow_succ,Nat.mul_comm]
theorem ng (m:Nat):∀n i,itn (lps m) n (i,0)=(itn (lp m) n i,0)
 | 0,i=>rfl
 | n+1,i=>by
  show itn (lps m) n (lps m (i,0))=_;rw[show lps m (i,0)=(lp m i,0) by simp[lps,leap,lp]];exact ng m n (lp m i)
theorem vg {m:Nat}:∀n x,x.1<m+1->(itn (lps m) n x).1<m+1
 | 0,x,h=>h
 | n+1,x,h=>vg n (lps m x) (Nat.mod_lt _ (Nat.succ_pos _))
theorem yw {x:Nat × Nat} (hm:Msk m) (h1:x.1<m+1) (h2:x.2<2 ^ 64) (he:e<m+1):∃n,n<m+14/\(itn (lps m) n x).1=e:=by
 have z:(itn (lps m) 13 x).2=0:=by rw[rb];exact Nat.div_eq_of_lt (Nat.lt_trans h2 (by decide))
 have l:=vg (m:=m) 13 x h1;obtain⟨d,hd,ed⟩:=cyc hm l he;refine⟨13+d,by omega,?_⟩;rw[dO,show itn (lps m) 13 x=((itn (lps m) 13 x).1,0) from by rw[<-z],ng];exact ed
def adv (m:Nat) (p:Probe):Probe:=if p.more>0 then { p with j:=p.j+1,more:=p.more-1 } else let (i,perturb):=leap m p.i p.perturb;{ p with j:=i,more:=runEnd m i-i,i,perturb }
def beg (m:Nat) (x:Nat × Nat):Probe:={ j:=x.1,more:=runEnd m x.1-x.1,i:=x.1,perturb:=x.2,dummy:=none }
theorem tW (t:SetTable) (h:Int):t.probeStart h=beg t.mask (bits h % (t.mask+1),bits h):=rfl
theorem yP (m i:Nat):runEnd m i-i<=9:=by unfold runEnd;split <;> omega
theorem lP (m:Nat):∀(k:Nat) (p:Probe),p.more=k->p.dummy=none->itn (adv m) (k+1) p=beg m (lps m (p.i,p.perturb))
 | 0,p,h,hd=>by
  show adv m p=_;unfold adv;rw[Qo (by omega)];obtain⟨j,more,i,pe,d⟩:=p;dsimp only at hd;subst hd;rfl
 | k+1,p,h,hd=>by
  have e:adv m p={ p with j:=p.j+1,more:=p.more-1 }:=Qs (by omega);show itn (adv m) (k+1) (adv m p)=_;rw[e];exact lP m k { p with j:=p.j+1,more:=p.more-1 } (by show p.more-1=k;omega) hd
theorem kA (m:Nat):∀(n:Nat) (x:Nat × Nat),∃c,c<=10*n/\itn (adv m) c (beg m x)=beg m (itn (lps m) n x)
 | 0,x=>⟨0,Qg _,rfl⟩
 | n+1,x=>by
  obtain⟨c,hc,e⟩:=kA m n (lps m x);have r:=yP m x.1;refine⟨(beg m x).more+1+c,by show runEnd m x.1-x.1+1+c<=_;omega,?_⟩;rw[dO,lP m _ (beg m x) rfl rfl];exact e
def Emp (m:Nat) (L:Nat->Prop):Nat->Probe->Prop
 | 0,p=>¬L p.j
 | n+1,p=>L p.j/\Emp m L n (adv m p)
theorem vV {m:Nat} {L:Nat->Prop}:∀(n:Nat) (p:Probe),¬L (itn (adv m) n p).j->∃k,k<=n/\Emp m L k p
 | 0,p,h=>⟨0,Qg _,h⟩
 | n+1,p,h=>by
  by_cases c:L p.j
  ·obtain⟨k,hk,e⟩:=vV n (adv m p) h;exact⟨k+1,by omega,c,e⟩
  exact⟨0,QR _,c⟩
theorem sW {L:Nat->Prop} (hm:Msk m) (h:Int) (he:e<m+1) (ne:¬L e):∃n,n<10*turns m/\Emp m L n (beg m (bits h % (m+1),bits h)):=by
 have hb:bits h<2 ^ 64:=by
  unfold bits;have h1:0<=h % (2 ^ 64:Int):=Int.emod_nonneg _ (by decide);have h2:h % (2 ^ 64:Int)<2 ^ 64:=Int.emod_lt_of_pos _ (by decide);omega
 obtain⟨n,hn,ee⟩:=yw (x:=(bits h % (m+1),bits h)) hm (Nat.mod_lt _ (Nat.succ_pos _)) hb he;obtain⟨c,hc,ec⟩:=kA m n (bits h % (m+1),bits h);obtain⟨k,hk,em⟩:=vV (m:=m) (L:=L) c (beg m (bits h % (m+1),bits h)) (by rw[ec];show ¬L (itn (lps m) n _).1;rw[ee];exact ne);exact⟨k,by unfold turns;omega,em⟩
inductive Rch (m:Nat) (L:Nat->Prop):Probe->Nat->Prop
 | here (p:Probe):Rch m L p p.j
 | step {p:Probe} {j:Nat}:L p.j->Rch m L (adv m p) j->Rch m L p j
theorem Rch.mono {L L':Nat->Prop} (f:∀j,L j->L' j) {p:Probe} (h:Rch m L p j):Rch m L' p j:=by
 induction h with
 | here p=>exact .here p
 | step a _ ih=>exact .step (f _ a) ih
theorem Emp.rch {L:Nat->Prop}:∀{n:Nat} {p:Probe},Emp m L n p->Rch m L p (itn (adv m) n p).j/\¬L (itn (adv m) n p).j
 | 0,p,h=>⟨.here p,h⟩
 | n+1,p,h=>⟨.step h.1 (Emp.rch h.2).1,(Emp.rch h.2).2⟩
def lQ (l:List Nat):Prop:=l.Pairwise (·<·)
variable {l js:List Nat}
theorem lQ.lt (r:lQ l) {k:Nat} (h:i<k) (hk:k<l.length):l[i]<l[k]:=List.pairwise_iff_getElem.mp r i k (by omega) hk h
theorem p9 {xs:Array Nat} {j:Nat} (r:lQ xs.toList):∀(f lo hi:Nat),lo<=hi->hi<=xs.size->hi-lo<=f->(∀i (h:i<xs.toList.length),i<lo->xs.toList[i]<j)->(∀i (h:i<xs.toList.length),hi<=i->j<=xs.toList[i]) ->
  below.go xs j f lo hi<=xs.size/\(∀i (h:i<xs.toList.length),i<below.go xs j f lo hi->xs.toList[i]<j)/\∀i (h:i<xs.toList.length),below.go xs j f lo hi<=i->j<=xs.toList[i]
 | 0,lo,hi,h1,h2,h3,a,b=>by
  obtain rfl:lo=hi:=by omega
  exact⟨h2,a,b⟩
 | f+1,lo,hi,h1,h2,h3,a,b=>by
  unfold below.go;by_cases c:lo<hi
  ·rw[Qs c];have hz:xs.toList.length=xs.size:=Qi;have hm:(lo+hi) / 2<xs.toList.length:=by omega
   have e:xs.getD ((lo+hi) / 2) j=xs.toList[(lo+hi) / 2]:=by
    have:(lo+hi) / 2<xs.size:=by omega
    simp[Array.getD,this]
   dsimp only;rw[e];by_cases d:xs.toList[(lo+hi) / 2]<j
   ·rw[Qs d];refine p9 r f _ hi (by omega) h2 (by omega) (λi h hx=>?_) b;by_cases z:i=(lo+hi) / 2
    ·subst z;exact d
    exact Nat.lt_trans (r.lt (show i<(lo+hi) / 2 by omega) hm) d
   rw[Qo d];refine p9 r f lo _ (by omega) (by omega) (by omega) a λi h hx=>?_;by_cases z:i=(lo+hi) / 2
   ·subst z;omega
   have:=r.lt (show (lo+hi) / 2<i by omega) h;omega
  rw[Qo c];obtain rfl:lo=hi:=by omega
  exact⟨h2,a,b⟩
theorem bel {xs:Array Nat} (j:Nat) (r:lQ xs.toList):below xs j<=xs.size/\(∀i (h:i<xs.toList.length),i<below xs j->xs.toList[i]<j)/\∀i (h:i<xs.toList.length),below xs j<=i->j<=xs.toList[i] :=
 p9 r _ 0 xs.size (QR _) (Qg _) (by omega) (λi _ h=>absurd h (X8 _)) (λi h1 h2=>absurd h1 (by rw[Qi];omega))
theorem gH {t:SetTable} (r:lQ t.place.toList) (h:t.place.toList[i]?=some j):t.slot j=.live i:=by
 obtain⟨b1,b2,b3⟩:=bel j r;obtain⟨hi,e⟩:=Qd.mp h
 have eb:below t.place j=i:=by
  by_cases c:i<below t.place j
  ·have:=b2 i hi c;omega
  by_cases d:below t.place j<i
  ·have h1:=b3 (below t.place j) (by omega) (Qg _);have h2:=r.lt d hi;omega
  omega
 unfold slot;dsimp only;rw[eb,<-Q6,h];simp
theorem oP {t:SetTable} (hd:t.dummies=#[]) (h:j∉t.place.toList):t.slot j=.empty:=by
 unfold slot;dsimp only
 have n1:(t.place[below t.place j]?==some j)=false:=by
  cases c:t.place[below t.place j]? with
  | none=>rfl
  | some k =>
  have:k∈t.place.toList:=Qk (by rw[Q6];exact c);have:k≠j:=λz=>h (z▸this);simpa using this
 rw[n1,hd];simp[has]
theorem nG {α:Type} (xs:Array α) (p:Nat) (x:α) (h:p<=xs.size):(insertAt xs p x).toList=xs.toList.take p++x::xs.toList.drop p:=by
 unfold insertAt;rw[Array.toList_append,Array.toList_push,Array.toList_extract,Array.toList_extract];simp only[List.extract_eq_take_drop,List.drop_zero,Nat.sub_zero,XX,List.singleton_append];congr 2;exact QV (by rw[XG,Qi];exact Qg _)
structure Tb (t:SetTable) (hs:List Int):Prop where
 msk:Msk t.mask
 dum:t.dummies=#[]
 len:t.place.toList.length=hs.length
 up:lQ t.place.toList
 bd:∀j∈t.place.toList,j<t.mask+1
 rch:∀q∈t.place.toList.zip hs,Rch t.mask (·∈t.place.toList) (t.probeStart q.2) q.1
variable {hs:List Int}
theorem Tb.fits {t:SetTable} (b:Tb t hs) (h:hs.length<=t.mask):t.fits hs.length=true:=by
 have:=b.len;rw[Qi]at this;simp[SetTable.fits,fill,b.dum,this,h]
theorem rn {m:Nat} (nd:l.Nodup) (h:l.length<m+1):∃e,e<m+1/\e∉l:=by
 by_cases c:∃e,e<m+1/\e∉l
 ·exact c
 exfalso
 have all:∀e,e∈List.range (m+1)->e∈l:=λe he=>by
  by_cases d:e∈l
  ·exact d
  exact absurd ⟨e,Xx.mp he,d⟩ c
 have le:∀(as bs:List Nat),as.Nodup->(∀x∈as,x∈bs)->as.length<=bs.length:=by
  intro as
  induction as with
  | nil=>intro bs _ _;exact QR _
  | cons a as ih =>
  intro bs nd h;have ha:=h a (by simp);have:=ih (bs.erase a) (QU.mp nd).2 λx hx=>(List.mem_erase_of_ne λe:x=a=>(QU.mp nd).1 (e▸hx)).mpr (h x (Qn _ hx));rw[List.length_erase_of_mem ha]at this;have:=List.length_pos_of_mem ha;simp only[XA];omega
 have:=le _ l List.nodup_range all;rw[List.length_range]at this;omega
theorem lQ.nodup (r:lQ l):l.Nodup:=r.imp λh=>QB h
theorem Tb.put {t:SetTable} {h:Int} (b:Tb t hs) (hj:j<t.mask+1) (nj:j∉t.place.toList) (r:Rch t.mask (·∈t.place.toList) (t.probeStart h) j) :
  ∃p,p=(t.put j).2/\p<=hs.length/\(t.put j).1.mask=t.mask/\(t.put j).1.led=t.led/\(t.put j).1.plain=t.plain/\Tb (t.put j).1 (hs.take p++h::hs.drop p):=by
 obtain⟨b1,b2,b3⟩:=bel j b.up;have lz:t.place.size=hs.length:=by rw[<-Qi];exact b.len
 have nh:has t.dummies j=false:=by rw[b.dum];simp[has]
 refine⟨below t.place j,rfl,by omega,rfl,rfl,rfl,?_⟩;have pl:(t.put j).1.place.toList=t.place.toList.take (below t.place j)++j::t.place.toList.drop (below t.place j):=nG _ _ _ b1
 have mem:∀x,x∈(t.put j).1.place.toList↔x=j\/x∈t.place.toList:=λx=>by
  rw[pl,Qz,Qj]
  conv=>rhs;rw[<-X6 (below t.place j) t.place.toList,Qz]
  constructor
  ·rintro(h|h|h)
   ·exact .inr (.inl h)
   ·exact .inl h
   exact .inr (.inr h)
  rintro(h|h|h)
  ·exact .inr (.inl h)
  ·exact .inl h
  exact .inr (.inr h)
 have bl:=b.len;refine⟨b.msk,?_,?_,?_,λx hx=>?_,λq hq=>?_⟩
 ·show (if has t.dummies j=true then _ else t.dummies)=#[];rw[Qo (by rw[nh];simp)];exact b.dum
 ·rw[pl];simp only[Qh,XA,QO,XG];omega
 ·rw[pl];refine List.pairwise_append.mpr ⟨b.up.sublist (List.take_sublist _ _),List.pairwise_cons.mpr ⟨λx hx=>?_,b.up.sublist (List.drop_sublist _ _)⟩,λx hx y hy=>?_⟩
  ·obtain⟨i,hi,e⟩:=Xf hx;rw[List.getElem_drop]at e;rw[XG]at hi;have:=b3 (below t.place j+i) (by omega) (by omega);have ne:x≠j:=λz=>nj (z▸List.mem_of_mem_drop hx);omega
  obtain⟨i,hi,e⟩:=Xf hx;rw[List.getElem_take]at e;rw[QO]at hi;have h1:=b2 i (by omega) (by omega);rcases Qj.mp hy with rfl|hy
  ·omega
  obtain⟨k,hk,e2⟩:=Xf hy;rw[List.getElem_drop]at e2;rw[XG]at hk;have:=b3 (below t.place j+k) (by omega) (by omega);omega
 ·rcases(mem x).mp hx with rfl|hx
  ·exact hj
  exact b.bd x hx
 have up:∀x,x∈t.place.toList->x∈(t.put j).1.place.toList:=λx hx=>(mem x).mpr (.inr hx);rw[pl,List.zip_append (by rw[QO,QO];omega),List.zip_cons_cons,Qz,Qj]at hq
 have old:∀q,q∈(t.place.toList.take (below t.place j)).zip (hs.take (below t.place j))\/q∈(t.place.toList.drop (below t.place j)).zip (hs.drop (below t.place j))->q∈t.place.toList.zip hs:=λq hq=>by
  rw[<-X6 (below t.place j) t.place.toList,<-X6 (below t.place j) hs,List.zip_append (by rw[QO,QO];omega),Qz];simpa using hq
 rcases hq with hq|rfl|hq
 ·exact(b.rch q (old q (.inl hq))).mono up
 ·exact r.mono up
 exact(b.rch q (old q (.inr hq))).mono up
theorem oV (h:i<m+1):i<=runEnd m i/\runEnd m i<m+1:=by unfold runEnd;split <;> omega
theorem oz {p:Probe} (h:p.more>0):adv m p={ p with j:=p.j+1,more:=p.more-1 }:=Qs h
theorem ul {m:Nat} {L:Nat->Prop}:∀(k:Nat) (p:Probe),k<=p.more->(∀d,d<k->L (p.j+d))->Rch m L p (p.j+k)
 | 0,p,_,_=>.here p
 | k+1,p,h,a=>by
  refine .step (a 0 (by omega)) ?_;rw[oz (by omega),show p.j+(k+1)=p.j+1+k by omega];exact ul k { p with j:=p.j+1,more:=p.more-1 } (by show k<=p.more-1;omega) λd hd=>by have:=a (d+1) (by omega);rw[show p.j+(d+1)=p.j+1+d by omega]at this;exact this
theorem um {m j:Nat} {L:Nat->Prop}:∀(k:Nat) (p:Probe),p.more=k->p.dummy=none->(∀d,d<=k->L (p.j+d))->Rch m L (beg m (lps m (p.i,p.perturb))) j->Rch m L p j
 | 0,p,h,hd,a,r=>by
  refine .step (a 0 (Qg _)) ?_;have:=lP m 0 p h hd;rw[show itn (adv m) (0+1) p=adv m p from rfl]at this;rw[this];exact r
 | k+1,p,h,hd,a,r=>by
  refine .step (a 0 (QR _)) ?_;rw[oz (by omega)];exact um k { p with j:=p.j+1,more:=p.more-1 } (by show p.more-1=k;omega) hd (λd hd=>by have:=a (d+1) (by omega);rw[show p.j+(d+1)=p.j+1+d by omega]at this;exact this) r
def Ln (m:Nat) (owner:Array (Option Nat)) (j:Nat):Prop:=j<m+1/\owner.getD j none≠none
theorem yr {m e:Nat} {owner:Array (Option Nat)} (ho:owner.size=m+1) (he:e<m+1) (ee:owner.getD e none=none):∀(f i per:Nat),i<m+1->(∃n,n<f/\(itn (lps m) n (i,per)).1=e) ->
  ∃j,layClean.free m owner f i per=some j/\j<m+1/\owner.getD j none=none/\Rch m (Ln m owner) (beg m (i,per)) j
 | 0,i,per,hi,⟨n,hn,_⟩=>absurd hn (X8 _)
 | f+1,i,per,hi,⟨n,hn,en⟩=>by
  obtain⟨r1,r2⟩:=oV hi
  have gd:∀j,j<m+1->owner.getD j (some 0)=owner.getD j none:=λj hj=>by
   have:j<owner.size:=by omega
   simp[Array.getD,this]
  unfold layClean.free
  cases c:(List.range (runEnd m i+1-i)).find? λk=>(owner.getD (i+k) (some 0)).isNone with
  | some k =>
   obtain⟨h1,as,bs,h2,h3⟩:=List.find?_eq_some_iff_append.mp c;have hk:k∈List.range (runEnd m i+1-i):=List.mem_of_find?_eq_some c;rw[Xx]at hk;have kl:i+k<m+1:=by omega
   rw[gd _ kl]at h1;refine⟨i+k,rfl,kl,by simpa using h1,?_⟩;refine ul (m:=m) (L:=Ln m owner) k (beg m (i,per)) (by show k<=runEnd m i-i;omega) λd hd=>?_;have hd2:i+d<m+1:=by omega
   refine⟨hd2,λz=>?_⟩;have z:owner.getD (i+d) none=none:=z
   have mem:d∈as:=by
    have e1:d∈as++k::bs:=by rw[<-h2,Xx];omega
    rcases Qz.mp e1 with q|q
    ·exact q
    exfalso;have sr:(as++k::bs).Pairwise (·<·):=by rw[<-h2];exact List.pairwise_lt_range
    have:=(List.pairwise_cons.mp (List.pairwise_append.mp sr).2.1).1;rcases Qj.mp q with rfl|q
    ·omega
    have:=this d q;omega
   have:=h3 d mem;rw[gd _ hd2,z]at this;simp at this
  | none =>
  have all:∀d,d<=runEnd m i-i->Ln m owner (i+d):=λd hd=>by
   have hd2:i+d<m+1:=by omega
   refine⟨hd2,λz=>?_⟩;have:=List.find?_eq_none.mp c d (Xx.mpr (by omega));rw[gd _ hd2,z]at this;simp at this
  cases n with
  | zero=>exact absurd ee (by have:=all 0 (QR _);rw[show e=i+0 from en.symm];exact this.2)
  | succ n =>
  obtain⟨j,q1,q2,q3,q4⟩:=yr ho he ee f (lps m (i,per)).1 (lps m (i,per)).2 (Nat.mod_lt _ (Nat.succ_pos _)) ⟨n,by omega,en⟩;exact⟨j,q1,q2,q3,um _ (beg m (i,per)) rfl rfl all q4⟩
structure Lay (m:Nat) (owner:Array (Option Nat)) (js:List Nat) (hs:List Int):Prop where
 sz:owner.size=m+1
 len:js.length=hs.length
 nd:js.Nodup
 bd:∀j∈js,j<m+1
 own:∀j i,j<m+1->(owner.getD j none=some i↔js[i]?=some j)
 rch:∀q∈js.zip hs,Rch m (·∈js) (beg m (bits q.2 % (m+1),bits q.2)) q.1
theorem xB (h:Int):bits h<2 ^ 64:=by
 unfold bits;have h1:0<=h % (2 ^ 64:Int):=Int.emod_nonneg _ (by decide);have h2:h % (2 ^ 64:Int)<2 ^ 64:=Int.emod_lt_of_pos _ (by decide);omega
theorem Lay.more {owner:Array (Option Nat)} (hm:Msk m) (l:Lay m owner js hs) (h:Int) (fw:hs.length<m+1) :
  ∃j,layClean.free m owner (turns m) (bits h % (m+1)) (bits h)=some j/\Lay m (owner.setIfInBounds j (some hs.length)) (js++[j]) (hs++[h]):=by
 obtain⟨e,he,ne⟩:=rn l.nd (by rw[l.len];exact fw)
 have none_of:∀j,j<m+1->j∉js->owner.getD j none=none:=λj hj nj=>by
  cases c:owner.getD j none with
  | none=>rfl
  | some i=>exact absurd (Qk ((l.own j i hj).mp c)) nj
 obtain⟨n,hn,en⟩:=yw (x:=(bits h % (m+1),bits h)) hm (Nat.mod_lt _ (Nat.succ_pos _)) (xB h) he;obtain⟨j,f1,f2,f3,f4⟩:=yr l.sz he (none_of e he ne) (turns m) (bits h % (m+1)) (bits h) (Nat.mod_lt _ (Nat.succ_pos _)) ⟨n,by unfold turns;omega,en⟩
 have mem_of:∀j,Ln m owner j->j∈js:=λj ⟨a,b⟩=>by
  cases c:owner.getD j none with
  | none=>exact absurd c b
  | some i=>exact Qk ((l.own j i a).mp c)
 have nj:j∉js:=λz=>by
  obtain⟨i,hi,e⟩:=Xf z;rw[(l.own j i f2).mpr (by rw[Qe hi,e])]at f3;cases f3
 have up:∀x,x∈js->x∈js++[j]:=λx hx=>Xb _ hx;refine⟨j,f1,by simp[l.sz],by simp[l.len],?_,λx hx=>?_,λx i hx=>?_,λq hq=>?_⟩
 ·exact X4.mpr ⟨l.nd,by simp,λa ha b hb e=>nj (by simp at hb;rw[<-hb,<-e];exact ha)⟩
 ·rcases Qz.mp hx with hx|hx
  ·exact l.bd x hx
  simp at hx;rw[hx];exact f2
 ·have hj:j<owner.size:=by rw[l.sz];exact f2
  have gd:(owner.setIfInBounds j (some hs.length)).getD x none=if j=x then some hs.length else owner.getD x none:=by
   rw[Xe,Array.getElem?_setIfInBounds];by_cases c:j=x
   ·subst c;simp[hj]
   rw[Qo c,Qo c,Xe]
  rw[gd];by_cases c:j=x
  ·subst c;rw[Qs rfl]
   constructor
   ·intro z;cases z;rw[<-l.len,QK (Qg _)];simp
   intro z;by_cases d:i<js.length
   ·rw[QC d]at z;exact absurd (Qk z) nj
   have:=(Qd.mp z).1;rw[Qh,QP]at this;rw[show i=js.length by omega,l.len]
  rw[Qo c,l.own x i hx];by_cases d:i<js.length
  ·rw[QC d]
  rw[QY (by omega),QK (by omega)]
  constructor
  ·intro z;cases z
  intro z;have:=Qk z;simp at this;exact absurd this.symm c
 rw[List.zip_append l.len,Qz]at hq;rcases hq with hq|hq
 ·exact(l.rch q hq).mono up
 simp at hq;subst hq;exact(f4.mono mem_of).mono up
theorem nA {m:Nat} (hm:Msk m):∀(more hs:List Int) (owner:Array (Option Nat)) (js:List Nat),Lay m owner js hs->hs.length+more.length<=m+1 ->
  ∃owner' js',more.foldl (λ(acc:Option (Array (Option Nat) × Nat)) h=>do
   let (owner,k) <-acc;let j <-layClean.free m owner (turns m) (bits h % (m+1)) (bits h)
   pure (owner.setIfInBounds j (some k),k+1)) (some (owner,hs.length))=some (owner',(hs++more).length)/\Lay m owner' js' (hs++more)
 | [],hs,owner,js,l,_=>⟨owner,js,by simp,by simpa using l⟩
 | h::more,hs,owner,js,l,z=>by
  rw[XA]at z;obtain⟨j,e,l'⟩:=l.more hm h (by omega);obtain⟨o',js',e2,l2⟩:=nA hm more (hs++[h]) _ _ l' (by simp;omega);refine⟨o',js',?_,by simpa using l2⟩;rw[List.foldl_cons]
  have st:(do
    let (owner,k) <-some (owner,hs.length);let j <-layClean.free m owner (turns m) (bits h % (m+1)) (bits h)
    pure (owner.setIfInBounds j (some k),k+1):Option (Array (Option Nat) × Nat))=some (owner.setIfInBounds j (some hs.length),(hs++[h]).length):=by
   show (layClean.free m owner (turns m) (bits h % (m+1)) (bits h)).bind _=_;rw[e];simp
  rw[st,e2];simp
theorem sM (hm:Msk m) (hs:Array Int) (fw:hs.size<=m+1):∃owner js,layClean m hs=some owner/\Lay m owner js hs.toList:=by
 have l0:Lay m (Array.replicate (m+1) none) [] []:=⟨by simp,rfl,List.nodup_nil,λj h=>(nomatch h),λj i hj=>by simp[Array.getD,hj],λq hq=>(nomatch hq)⟩;obtain⟨o,js,e,l⟩:=nA hm hs.toList [] _ _ l0 (by simpa using fw);refine⟨o,js,?_,by simpa using l⟩;unfold layClean;rw[<-Array.foldl_toList];have e':=congrArg (Option.map (·.1)) e;exact e'
theorem u7 {α:Type} [DecidableEq α]:∀(as bs:List α),as.Nodup->(∀x∈as,x∈bs)->as.length<=bs.length
 | [],_,_,_=>QR _
 | a::as,bs,nd,h=>by
  have ha:=h a (by simp);have:=u7 as (bs.erase a) (QU.mp nd).2 λx hx=>(List.mem_erase_of_ne λe:x=a=>(QU.mp nd).1 (e▸hx)).mpr (h x (Qn _ hx));rw[List.length_erase_of_mem ha]at this;have:=List.length_pos_of_mem ha;simp only[XA];omega
theorem qZ {α:Type} [DecidableEq α]:∀(as bs:List α),as.Nodup->(∀x∈as,x∈bs)->bs.length<=as.length->as.Perm bs
 | [],bs,_,_,h=>by
  obtain rfl:bs=[]:=List.length_eq_zero_iff.mp (by simpa using h);exact .nil
 | a::as,bs,nd,h,z=>by
  obtain⟨n1,n2⟩:=QU.mp nd;have ha:=h a (by simp);have q:=qZ as (bs.erase a) n2 (λx hx=>(List.mem_erase_of_ne λ(e:x=a)=>n1 (e▸hx)).mpr (h x (Qn _ hx))) (by rw[List.length_erase_of_mem ha];simp at z;omega);exact(q.cons a).trans (List.perm_cons_erase ha).symm
theorem AE {α:Type} [DecidableEq α] {as bs:List α} (n1:as.Nodup) (n2:bs.Nodup) (h:∀x,x∈as↔x∈bs):as.Perm bs:=qZ as bs n1 (λx=>(h x).mp) (u7 bs as n2 λx=>(h x).mpr)
theorem AL {α:Type} (hm:Msk m) (es:Array (Int × α)) (fw:es.size<=m+1) (finger moves:Nat) (led plain:Bool):∃t order,laid m finger moves led plain (es.map (·.1))=some (t,order)/\t.mask=m/\t.led=led/\t.plain=plain /\
  (order.filterMap (es[·]?)).toList.Perm es.toList/\Tb t ((order.filterMap (es[·]?)).toList.map (·.1)):=by
 obtain⟨owner,js,e,l⟩:=sM hm (es.map (·.1)) (by simpa using fw);rw[Array.toList_map]at l;have ll:js.length=es.size:=by have:=l.len;rwa [Qb,Qi]at this
 let live:=(List.range (m+1)).filterMap λj=>(owner.getD j none).map (j,·)
 have mem:∀j i,(j,i)∈live↔j<m+1/\js[i]?=some j:=λj i=>by
  show (j,i)∈(List.range (m+1)).filterMap _↔_;rw[List.mem_filterMap]
  constructor
  ·rintro⟨x,hx,z⟩;obtain⟨y,hy,z⟩:=Q8.mp z;cases z;have hx:=Xx.mp hx;exact⟨hx,(l.own j i hx).mp hy⟩
  rintro⟨h1,h2⟩;exact⟨j,Xx.mpr h1,by rw[(l.own j i h1).mpr h2];rfl⟩
 have f1:live.map (·.1)=(List.range (m+1)).filter λj=>(owner.getD j none).isSome:=by
  show ((List.range (m+1)).filterMap _).map _=_;generalize List.range (m+1)=r
  induction r with
  | nil=>rfl
  | cons x r ih =>
  cases c:owner.getD x none with
  | none=>rw[List.filterMap_cons_none (by rw[c];rfl),ih,List.filter_cons_of_neg (by rw[c];simp)]
  | some i=>rw[List.filterMap_cons_some (by rw[c];rfl),Qw,ih,List.filter_cons_of_pos (by rw[c];rfl)]
 have up:lQ (live.map (·.1)):=by rw[f1];exact List.pairwise_lt_range.sublist List.filter_sublist
 have ms:∀j,j∈live.map (·.1)↔j∈js:=λj=>by
  rw[Qm]
  constructor
  ·rintro⟨⟨x,i⟩,h,rfl⟩;exact Qk ((mem x i).mp h).2
  intro h;obtain⟨i,hi,ei⟩:=Xf h;exact⟨(j,i),(mem j i).mpr ⟨l.bd j h,by rw[Qe hi,ei]⟩,rfl⟩
 have inj:∀q∈live,∀r∈live,q.2=r.2->q=r:=λ⟨j,i⟩ hq ⟨j',i'⟩ hr z=>by
  cases z;have h1:=((mem j i).mp hq).2;have h2:=((mem j' i).mp hr).2;rw[h1]at h2;cases h2;rfl
 have ndl:live.Nodup:=by
  have:(live.map (·.1)).Nodup:=up.nodup;rw[List.nodup_iff_pairwise_ne,Xv]at this;exact List.nodup_iff_pairwise_ne.mpr (this.imp λh z=>h (by rw[z]))
 have nd2:(live.map (·.2)).Nodup:=by
  rw[List.nodup_iff_pairwise_ne]at ndl ⊢;rw[Xv];exact ndl.imp_of_mem λha hb ne z=>ne (inj _ ha _ hb z)
 have pr:(live.map (·.2)).Perm (List.range es.size):=AE nd2 List.nodup_range λi=>by
  rw[Qm,Xx]
  constructor
  ·rintro⟨⟨j,k⟩,h,rfl⟩;have:=(Qd.mp ((mem j k).mp h).2).1;show k<_;omega
  intro h;have hi:i<js.length:=by omega
  exact⟨(js[i],i),(mem _ _).mpr ⟨l.bd _ (Q9 hi),Qe hi⟩,rfl⟩
 refine⟨{ mask:=m,place:=(live.map (·.1)).toArray,dummies:=#[],finger,led,moves,plain },(live.map (·.2)).toArray,?_,rfl,rfl,rfl,?_,?_⟩
 ·unfold laid;rw[e];rfl
 ·rw[Array.toList_filterMap];refine(pr.filterMap _).trans (.of_eq ?_);refine List.ext_getElem? λi=>?_
  have:∀n k,n<=es.size->((List.range n).filterMap (es[·]?))[k]?=if k<n then es[k]? else none:=by
   intro n
   induction n with
   | zero=>intro k _;simp
   | succ n ih =>
   intro k hn
   have ln:((List.range n).filterMap (es[·]?)).length=n:=by
    have h1:=ih n (by omega);rw[Qo (Zb _)]at h1;have h1:=List.getElem?_eq_none_iff.mp h1;by_cases c:n=0
    ·subst c;rfl
    have h2:=ih (n-1) (by omega);rw[Qs (by omega),QM (show n-1<es.size by omega)]at h2;have:=(Qd.mp h2).1;omega
   rw[List.range_succ,List.filterMap_append,List.filterMap_cons_some (QM (show n<es.size by omega)),List.filterMap_nil];by_cases c:k<n
   ·rw[QC (by omega),ih k (by omega),Qs c,Qs (by omega)]
   rw[QK (by omega),ln];by_cases d:k=n
   ·subst d;simp <;> omega
   rw[Qo (by omega),QY (by simp;omega)]
  rw[this _ _ (Qg _),Q6]
  split
  ·rfl
  rename_i h;rw[Array.getElem?_eq_none (by omega)]
 have fm:((live.map (·.2)).toArray.filterMap (es[·]?)).toList.map (·.1)=live.map λq=>(es.toList.map (·.1)).getD q.2 0:=by
  rw[Array.toList_filterMap];show ((live.map (·.2)).filterMap (es[·]?)).map (·.1)=_
  have all:∀q∈live,q.2<es.size:=λ⟨j,k⟩ h=>by
   have:=(Qd.mp ((mem j k).mp h).2).1;show k<_;omega
  generalize live=lv at all
  induction lv with
  | nil=>rfl
  | cons q lv ih =>
  have hq:=all q (by simp);rw[Qw,List.filterMap_cons_some (QM hq),Qw,Qw,ih λr hr=>all r (Qn _ hr)];congr 1;rw[Qx,Qp,Q6,QM hq];rfl
 rw[fm];refine⟨hm,rfl,by simp,by simpa using up,λj hj=>?_,λq hq=>?_⟩
 ·have hj:j∈live.map (·.1):=by simpa using hj
  exact l.bd j ((ms j).mp hj)
 have hq:q∈(live.map (·.1)).zip (live.map λq=>(es.toList.map (·.1)).getD q.2 0):=by simpa using hq
 rw[List.zip_map',Qm]at hq;obtain⟨⟨j,i⟩,h1,rfl⟩:=hq;obtain⟨h2,h3⟩:=(mem j i).mp h1;have hi:=(Qd.mp h3).1
 have z:(j,(es.toList.map (·.1)).getD i 0)∈js.zip (es.toList.map (·.1)):=by
  have hz:i<(es.toList.map (·.1)).length:=by rw[<-l.len];exact hi
  refine Qk (i:=i) ?_;rw[List.getElem?_zip_eq_some];exact⟨h3,by rw[Qx,Qe hz];rfl⟩
 refine(l.rch _ z).mono λx hx=>?_;have:=(ms x).mpr hx;simpa using this
end Ht
namespace Ht
open PySem PySem.Spec PyProof.Rows L2 PySem.SetTable
section
variable {prog:Program} {w:World} {A:Around} {E:B0} {s:Shared}
theorem kc {α:Type} {P:α->Prop} {Q:Option Bool × PUnit->Shared->Prop} {f:α->Option Bool × PUnit->Sem (ForInStep (Option Bool × PUnit))} (l:List α) (hl:∀x∈l,P x)
  (hf:∀x,P x->∀(R:ForInStep (Option Bool × PUnit)->Shared->Prop),R (.yield (none,⟨⟩)) s->wpAny (model prog w) A (f x (none,⟨⟩)) R E s) (h:Q (none,⟨⟩) s):wpAny (model prog w) A (forIn l (none,⟨⟩) f) Q E s:=by
 refine wpAny_forIn_list _ (λrest r s'=>r=(none,⟨⟩)/\s'=s/\∀x∈rest,P x) _ ?_ ?_ _ _ ⟨rfl,rfl,hl⟩
 ·rintro x rest r s' ⟨rfl,rfl,a⟩;exact hf x (a x (by simp)) _ ⟨rfl,rfl,λy hy=>a y (Qn _ hy)⟩
 rintro r s' ⟨rfl,rfl,_⟩;exact h
variable {v:Value}
theorem xa {k:Key} (h:(ax prog w).is k v=true):(∃i t,v=.int i t)\/∃x t,v=.str x t:=by
 rcases aN (show dN k v=true from h) with⟨i,t,_,e⟩|⟨x,t,_,e⟩
 ·exact .inl ⟨i,t,e⟩
 exact .inr ⟨x,t,e⟩
variable {vs:List Value}
theorem xh {ks:List Key} (h:ItemsAre (ax prog w) ks vs):∀v∈vs,∃k,(ax prog w).is k v=true:=by
 induction h with
 | nil=>intro v hv;cases hv
 | cons q _ ih =>
 intro v hv;rcases Qj.mp hv with rfl|hv
 ·exact⟨_,q⟩
 exact ih v hv
theorem vE {h:Heap} {ks:aB} (x:TK.Its (ax prog w) h ks vs):∀v∈vs,∃k,TK.It (ax prog w) h k v:=by
 induction x with
 | nil=>intro v hv;cases hv
 | cons q _ ih =>
 intro v hv;rcases Qj.mp hv with rfl|hv
 ·exact⟨_,q⟩
 exact ih v hv
variable {Q:Bool->Shared->Prop}
theorem jV {k:Key} {d:Nat} (hk:(ax prog w).is k v=true) (h:Q false s):wpAny (model prog w) A (ofAClassStatement d v) Q E s:=by
 rcases xa hk with⟨i,t,rfl⟩|⟨x,t,rfl⟩ <;> (unfold ofAClassStatement;exact Qf h)
variable {b:Addr}
theorem jW {o:Obj} {its:Array Value} {n d:Nat} {P:Value->Prop} (ho:s.heap.get? b=some o) (hc:o.cls=.type "tuple") (hd:o.data=.seq its n) (hp:∀v∈its.toList,P v)
  (hf:∀v,P v->∀(R:Bool->Shared->Prop),R false s->wpAny (model prog w) A (ofAClassStatement d v) R E s) (h:Q false s):wpAny (model prog w) A (ofAClassStatement (d+1) (.ref b)) Q E s:=by
 unfold ofAClassStatement;refine Qa (wpAny_typeOf (T := "tuple") ⟨o,ho,hc⟩ ?_);dsimp only;rw[Qs (by decide)];refine Qa (Qf ?_);rw[Qo (by decide)];unfold seqItems?;refine Qa (Qa (wpAny_load ho ?_));rw[hd];refine Qf ?_;dsimp only;refine Qa ?_;rw[<-Array.forIn_toList];refine kc its.toList hp (λv hv R hR=>Qa (hf v hv _ ?_)) ?_
 ·rw[Qo Qr];exact Qf hR
 exact Qf h
theorem qX {k:aB} (hk:TK.IsT (ax prog w) s.heap k b) (h:Q false s):wpAny (model prog w) A (ofAClassStatement 8 (.ref b)) Q E s:=by
 obtain⟨o,its,n,h1,h2,h3,h4⟩:=hk;refine jW (d:=7) h1 h2 h3 (vE h4) (λv ⟨k,hv⟩ R hR=>?_) h
 cases k with
 | inl k=>exact jV hv hR
 | inr ks =>
 obtain⟨c,rfl,o,its,n,h1,h2,h3,h4⟩:=hv;exact jW (d:=6) h1 h2 h3 (xh h4) (λv ⟨k,hv⟩ R hR=>jV hv hR) hR
def zK:Key->Bool
 | .inl _=>true
 | .inr _=>false
def byV2:Key ⊕ List Key->Bool
 | .inl k=>zK k
 | .inr ks=>ks.all zK
theorem yx {k:Key} {d:Nat} (hk:(ax prog w).is k v=true) (h:Q (zK k) s):wpAny (model prog w) A (hashByValue d v) Q E s:=by
 rcases aN (show dN k v=true from hk) with⟨i,t,rfl,rfl⟩|⟨x,t,rfl,rfl⟩ <;> (unfold hashByValue;exact Qf h)
theorem yy {α:Type} {o:Obj} {its:Array Value} {n d:Nat} {P:α->Value->Prop} {g:α->Bool} {xs:List α} (ho:s.heap.get? b=some o) (hc:o.cls=.type "tuple") (hd:o.data=.seq its n) (hp:Paired P xs its.toList)
  (hf:∀x v,P x v->∀(R:Bool->Shared->Prop),R (g x) s->wpAny (model prog w) A (hashByValue d v) R E s) (h:Q (xs.all g) s):wpAny (model prog w) A (hashByValue (d+1) (.ref b)) Q E s:=by
 unfold hashByValue;refine Qa (wpAny_specialOf (T := "tuple") ⟨o,ho,hc⟩ F.slot_tuple_hash.lookup ?_);dsimp only;unfold seqItems?;refine Qa (Qa (wpAny_load ho ?_));rw[hd];refine Qf ?_;refine Qa ?_;rw[Option.getD_some,<-Array.forIn_toList];refine wpAny_forIn_list _ (λrest r s'=>r.1=none/\s'=s/\∃ys,Paired P ys rest/\xs.all g=ys.all g) _ ?_ ?_ _ _ ⟨rfl,rfl,xs,hp,rfl⟩
 ·rintro x rest r s' ⟨_,rfl,ys,a,e⟩
  cases a with
  | @cons y _ ys _ q t =>
  refine Qa (hf y x q _ ?_);rw[List.all_cons]at e
  cases c:g y with
  | true=>rw[c,Bool.true_and]at e;exact Qf ⟨rfl,rfl,ys,t,e⟩
  | false=>rw[c,Bool.false_and]at e;rw[e]at h;exact Qf (Qf h)
 rintro⟨r1,r2⟩ s' ⟨hr,rfl,ys,a,e⟩;dsimp only at hr;subst hr;cases a;rw[e]at h;exact Qf h
theorem zw {ks:List Key} (h:ItemsAre (ax prog w) ks vs):Paired (λk v=>(ax prog w).is k v=true) ks vs:=by
 induction h with
 | nil=>exact .nil
 | cons q _ ih=>exact .cons q ih
theorem xg {h:Heap} {ks:aB} (x:TK.Its (ax prog w) h ks vs):Paired (TK.It (ax prog w) h) ks vs:=by
 induction x with
 | nil=>exact .nil
 | cons q _ ih=>exact .cons q ih
theorem byv {k:aB} (hk:TK.IsT (ax prog w) s.heap k b) (h:Q (k.all byV2) s):wpAny (model prog w) A (hashByValue 8 (.ref b)) Q E s:=by
 obtain⟨o,its,n,h1,h2,h3,h4⟩:=hk;refine yy (d:=7) h1 h2 h3 (xg h4) (λk v hv R hR=>?_) h
 cases k with
 | inl k=>exact yx hv hR
 | inr ks =>
 obtain⟨c,rfl,o,its,n,h1,h2,h3,h4⟩:=hv;exact yy (d:=6) h1 h2 h3 (zw h4) (λk v hv R hR=>yx hv hR) hR
end
theorem yq {t:SetTable} {hs:List Int} {f:Nat->Int} {h:Int} (b:Tb t hs):∀(n:Nat) (p:Probe) (fu:Nat),Emp t.mask (·∈t.place.toList) n p->n<fu->p.dummy=none ->
  (probe.go t f h fu p=some (.empty (itn (adv t.mask) n p).j none)/\∀d,d<n->∀i,t.place.toList[i]?=some (itn (adv t.mask) d p).j->f i≠h) \/
  ∃d i,d<n/\t.place.toList[i]?=some (itn (adv t.mask) d p).j/\f i=h/\probe.go t f h fu p=some (.candidate (itn (adv t.mask) d p).j i (itn (adv t.mask) (d+1) p))/\Emp t.mask (·∈t.place.toList) (n-(d+1)) (itn (adv t.mask) (d+1) p) /\
   (itn (adv t.mask) (d+1) p).dummy=none/\∀d',d'<d->∀i',t.place.toList[i']?=some (itn (adv t.mask) d' p).j->f i'≠h
 | 0,p,fu+1,e,_,hd=>by
  refine .inl ⟨?_,λd hd=>absurd hd (X8 _)⟩;unfold probe.go;rw[oP b.dum e];show some (Met.empty p.j p.dummy)=_;rw[hd];rfl
 | n+1,p,fu+1,e,hn,hd=>by
  obtain⟨i,hi,ei⟩:=Xf e.1;have ei:t.place.toList[i]?=some p.j:=by rw[Qe hi,ei]
  have hd':(adv t.mask p).dummy=none:=by unfold adv;split <;> exact hd
  by_cases c:f i=h
  ·refine .inr ⟨0,i,by omega,ei,c,?_,e.2,hd',λd' hd=>absurd hd (X8 _)⟩;unfold probe.go;rw[gH b.up ei];dsimp only;rw[Qs (by simpa using c)];rfl
  have st:probe.go t f h (fu+1) p=probe.go t f h fu (adv t.mask p):=by
   conv=>lhs;unfold probe.go
   rw[gH b.up ei];dsimp only;rw[Qo (by simpa using c)];rfl
  have one:∀i',t.place.toList[i']?=some p.j->i'=i:=λi' z=>by
   have:=(List.getElem?_inj hi b.up.nodup).mp (ei.trans z.symm);exact this.symm
  rcases yq b n (adv t.mask p) fu e.2 (by omega) hd' with⟨g1,g2⟩|⟨d,i2,g1,g2,g3,g4,g5,g6,g7⟩
  ·refine .inl ⟨by rw[st];exact g1,λd hd=>?_⟩
   cases d with
   | zero=>intro i' z;rw[one i' z];exact c
   | succ d=>exact g2 d (by omega)
  refine .inr ⟨d+1,i2,by omega,g2,g3,by rw[st];exact g4,by rw[show n+1-(d+1+1)=n-(d+1) by omega];exact g5,g6,λd' hd=>?_⟩
  cases d' with
  | zero=>intro i' z;rw[one i' z];exact c
  | succ d'=>exact g7 d' (by omega)
section
variable {prog:Program} {w:World}
def El (prog:Program) (w:World) (B:Addr->Prop) (h:Heap) (e:Int × Value) (k:aB):Prop:=∃b,e.2=.ref b/\TK.IsT (ax prog w) h k b/\e.1=(bq prog w).hash k/\B b
abbrev wu (es:Array (Int × Value)) (ep:Nat) (t:SetTable):Obj:={ cls:=.type "set", data:=.set es ep t }
theorem El.at {B:Addr->Prop} {h h':Heap} {a:Addr} {o:Obj} {e:Int × Value} {k:aB} (x:El prog w B h e k) (ho:h.get? a=some o) (hc:o.cls≠.type "tuple") (sb:∀b o,b≠a->h.get? b=some o->h'.get? b=some o):El prog w B h' e k:=by
 obtain⟨b,e1,e2,e3⟩:=x;exact⟨b,e1,Tm.cw e2 λc oc hc' hcl=>sb c oc (λz=>by rw[z,ho]at hc';cases hc';exact hc hcl) hc',e3⟩
theorem gz {B:Addr->Prop} {h:Heap}:∀{es:List (Int × Value)} {ks:List aB} {i:Nat},Paired (El prog w B h) es ks->∀{e},es[i]?=some e->∃k,ks[i]?=some k/\El prog w B h e k
 | _,_,_,.nil,_,e=>by simp at e
 | _,_,0,.cons r _,_,e=>by simp at e;subst e;exact⟨_,rfl,r⟩
 | _,_,i+1,.cons _ t,_,e=>by obtain⟨k,h1,h2⟩:=gz (i:=i) t (by simpa using e);exact⟨k,by simpa using h1,h2⟩
variable {A:Around} {E:B0} {s:Shared} {a b:Addr} {es:Array (Int × Value)} {ep:Nat} {t:SetTable} {ks:List aB} {kx:aB}
theorem yC {l:List Value} {Q:Bool->Shared->Prop} (hx:TK.IsT (ax prog w) s.heap kx b) (hl:∀v∈l,∃c k,v=.ref c/\TK.IsT (ax prog w) s.heap k c) (h:Q false s):wpAny (model prog w) A (searchCouldBeSeen (.ref b) l) Q E s:=by
 unfold searchCouldBeSeen;refine Qa (kc l hl (λv ⟨c,k,e,hv⟩ R hR=>?_) (Qf h));subst e;dsimp only;refine wpAny_ite_split (λ_=>Qf hR) λ_=>?_;refine Qa (TK.t_quiet hx ?_);rw[Qo (by simp)];refine Qa (TK.t_quiet hv ?_);rw[Qo (by simp)];refine Qa (qX hx ?_);rw[Qo Qr];refine Qa (qX hv ?_);rw[Qo Qr];exact Qf hR
end
section
variable {prog:Program} {w:World} {A:Around} {E:B0} {s:Shared} {a b:Addr} {es:Array (Int × Value)} {ep:Nat} {t:SetTable} {ks:List aB} {kx:aB} {B:Addr->Prop}
theorem wT {m:Nat} (h:Msk m):m % 2=1:=by rcases h with rfl|rfl|rfl <;> rfl
theorem yM (hu:A.units+1<cLine) (ho:s.heap.get? a=some (wu es ep t)) (b0:Tb t (es.toList.map (·.1))) (fw:es.size<=t.mask) (el:Paired (El prog w B s.heap) es.toList ks) (hx:TK.IsT (ax prog w) s.heap kx b) {Q:SetFound->Shared->Prop} :
  ∀(n:Nat) (p:Probe) (fu:Nat) (st:Option Probe),st.getD (t.probeStart ((bq prog w).hash kx))=p->Emp t.mask (·∈t.place.toList) n p->n<fu->n<10*turns t.mask->p.dummy=none ->
   ((∃d i:Nat,d<n/\t.place.toList[i]?=some (itn (adv t.mask) d p).j/\ks[i]?=some kx)/\Q (.there none) s\/kx∉ks/\Q (.free (itn (adv t.mask) n p).j false) s) ->
   wpAny (model prog w) A (setSearchFrom a (.ref b) ((bq prog w).hash kx) true fu st) Q E s:=by
 have hf:t.fits es.size=true:=by have:=b0.fits (by rw[Qb,Qi];exact fw);rwa [Qb,Qi]at this
 have pz:t.place.toList.length=es.toList.length:=by rw[b0.len,Qb]
 have gw:t.gaveWay=false:=by have:=wT b0.msk;simp[gaveWay,this]
 intro n
 induction n using Nat.strongRecOn with
 | _ n ih =>
 intro p fu st est e hn hn2 hd q;obtain⟨fu,rfl⟩:∃f,fu=f+1:=⟨fu-1,by omega⟩;unfold setSearchFrom;refine Qa (Xw ho rfl hf ?_);dsimp only;rw[gw,est];rw[Qo Qr];have go:=yq (f:=λi=>(es[i]?.map (·.1)).getD 0) (h:=(bq prog w).hash kx) b0 n p (10*turns t.mask) e hn2 hd
 have at_:∀(i:Nat) (k:aB),ks[i]?=some k->∃(e:Int × Value) (c:Addr),es[i]?=some e/\e.2=.ref c/\TK.IsT (ax prog w) s.heap k c/\(es[i]?.map (·.1)).getD 0=(bq prog w).hash k:=λi k hk=>by
  have hi:i<es.toList.length:=by rw[Xr el];exact(Qd.mp hk).1
  obtain⟨k',h1,c,h2,h3,h4⟩:=gz el (Qe hi);rw[hk]at h1;cases h1;rw[Qi]at hi;exact⟨es[i],c,QM hi,h2,h3,by rw[QM hi];exact h4.1⟩
 split
 ·rename_i met hmet
  have hmet:probe.go t (λi=>(es[i]?.map (·.1)).getD 0) ((bq prog w).hash kx) (10*turns t.mask) p=some met:=hmet;rcases go with⟨g1,g2⟩|⟨d,i,g1,g2,g3,g4,g5,g6,g7⟩
  ·rw[g1]at hmet;cases hmet;rcases q with⟨⟨d,i,h1,h2,h3⟩,_⟩|⟨_,q⟩
   ·obtain⟨_,_,_,_,_,z⟩:=at_ i kx h3;exact absurd z (g2 d h1 i h2)
   exact Qf q
  rw[g4]at hmet;cases hmet;have hi:i<es.size:=by have:=(Qd.mp g2).1;rw[<-Qi];omega
  obtain⟨k,hk,c,hc,hic,hh⟩:=gz el (i:=i) (e:=es[i]) (by rw[Q6];exact QM hi)
  have all:∀v∈List.map (λx:Int × Value=>x.2) (Array.filter (λx=>x.1==(bq prog w).hash kx) es).toList,∃c k,v=.ref c/\TK.IsT (ax prog w) s.heap k c:=λv hv=>by
   obtain⟨e,he,rfl⟩:=Qm.mp hv;rw[Array.toList_filter]at he;obtain⟨j,hj⟩:=List.getElem?_of_mem (QW.mp he).1;obtain⟨k,_,c,h1,h2,_⟩:=gz el hj;exact⟨c,k,h1,h2⟩
  have same:t.sameMemory t.moves t.mask=some true:=by simp[sameMemory]
  refine wpAny_ite_split (λ_=>Qa (yC hx all ?_)) (λ_=>?_)
  all_goals try rw[Qo Qr]
  all_goals
   rw[QM hi];have ee:es[i]=(es[i].1,.ref c):=by rw[<-hc]
   rw[ee];dsimp only;refine Qa (QZ (TK.t_eq (k_ prog w) hu hic hx ?_));refine Qa (Xw ho rfl hf ?_);dsimp only;by_cases ck:k=kx
   ·subst ck;rw[Qv rfl,Qs (show (true&&true)=true from rfl)];rcases q with⟨_,q⟩|⟨q,_⟩
    ·exact Qf q
    exact absurd (Qk hk) q
   rw[Qu ck,Qo (by simp),same];dsimp only;rw[Qs rfl,gH b0.up g2];dsimp only;rw[QM hi,ee];dsimp only;refine Qa (wpAny_isSame_ref_self (Qa (Qf ?_)));rw[Qs rfl];dsimp only;rw[Qo Qr];refine ih (n-(d+1)) (by omega) (itn (adv t.mask) (d+1) p) fu (some (itn (adv t.mask) (d+1) p)) rfl g5 (by omega) (by omega) g6 ?_;rcases q with⟨⟨d2,i2,h1,h2,h3⟩,q⟩|⟨q1,q2⟩
   ·refine .inl ⟨⟨d2-(d+1),i2,?_,?_,h3⟩,q⟩
    all_goals
     have:d<d2:=by
      rcases Nat.lt_trichotomy d2 d with z|z|z
      ·obtain⟨_,_,_,_,_,y⟩:=at_ i2 kx h3;exact absurd y (g7 d2 z i2 h2)
      ·subst z;have hi2:i2<t.place.toList.length:=(Qd.mp h2).1;have:=(List.getElem?_inj hi2 b0.up.nodup).mp (h2.trans g2.symm);subst this;rw[hk]at h3;exact absurd (QF h3) ck
      exact z
    ·omega
    rw[<-dO,show d+1+(d2-(d+1))=d2 by omega];exact h2
   refine .inr ⟨q1,?_⟩;rw[<-dO,show d+1+(n-(d+1))=n by omega];exact q2
 rename_i hmet
 have hmet:probe.go t (λi=>(es[i]?.map (·.1)).getD 0) ((bq prog w).hash kx) (10*turns t.mask) p=none:=by
  cases c:probe.go t (λi=>(es[i]?.map (·.1)).getD 0) ((bq prog w).hash kx) (10*turns t.mask) p with
  | none=>rfl
  | some m=>exact absurd c (hmet m)
 rcases go with⟨g1,_⟩|⟨d,i,_,_,_,g4,_⟩
 ·rw[g1]at hmet;cases hmet
 rw[g4]at hmet;cases hmet
end
theorem Ah {m n j:Nat} {L:Nat->Prop} {p:Probe} (r:Rch m L p j) (hj:L j) (e:Emp m L n p):∃d,d<n/\(itn (adv m) d p).j=j:=by
 induction r generalizing n with
 | here p =>
  cases n with
  | zero=>exact absurd hj e
  | succ n=>exact⟨0,by omega,rfl⟩
 | step a _ ih =>
 cases n with
 | zero=>exact absurd a e
 | succ n=>obtain⟨d,h1,h2⟩:=ih hj e.2;exact⟨d+1,by omega,h2⟩
theorem v9 {m:Nat}:∀(n:Nat) (p:Probe),p.j+p.more<m+1->(itn (adv m) n p).j<m+1
 | 0,p,h=>by show p.j<_;omega
 | n+1,p,h=>by
  refine v9 n (adv m p) ?_;unfold adv
  split
  ·show p.j+1+(p.more-1)<_;omega
  have l:(leap m p.i p.perturb).1<m+1:=Nat.mod_lt _ (Nat.succ_pos _);have:=oV l;show (leap m p.i p.perturb).1+(runEnd m (leap m p.i p.perturb).1-(leap m p.i p.perturb).1)<_;omega
theorem paired_perm {α β:Type} {R:α->β->Prop} {as as':List α} (p:as'.Perm as):∀{bs:List β},Paired R as bs->∃bs',Paired R as' bs'/\bs'.Perm bs:=by
 induction p with
 | nil=>intro bs h;exact⟨bs,h,.refl _⟩
 | cons x _ ih=>intro bs h;cases h with
  | cons q t=>obtain⟨bs',h1,h2⟩:=ih t;exact⟨_::bs',.cons q h1,h2.cons _⟩
 | swap x y l=>intro bs h;cases h with
  | cons q t=>cases t with
   | cons q2 t2=>exact⟨_::_::_,.cons q2 (.cons q t2),.swap _ _ _⟩
 | trans _ _ ih1 ih2=>intro bs h;obtain⟨b2,h1,h2⟩:=ih2 h;obtain⟨b3,h3,h4⟩:=ih1 h1;exact⟨b3,h3,h4.trans h2⟩
theorem iN {α β:Type} {R:α->β->Prop} {x:α} {y:β} (q:R x y):∀(p:Nat) {as:List α} {bs:List β},Paired R as bs->Paired R (as.take p++x::as.drop p) (bs.take p++y::bs.drop p)
 | 0,_,_,h=>by simpa using Paired.cons q h
 | p+1,_,_,.nil=>.cons q .nil
 | p+1,_,_,.cons r t=>.cons r (iN q p t)
section
variable {prog:Program} {w:World}
def SetK (prog:Program) (w:World) (B:Addr->Prop) (h:Heap) (a:Addr) (ks:List aB):Prop:=∃(es:Array (Int × Value)) (ep:Nat) (t:SetTable) (ks':List aB),h.get? a=some (wu es ep t)/\Paired (El prog w B h) es.toList ks'/\ks'.Perm ks/\ks.Nodup/\Tb t (es.toList.map (·.1))/\es.size*5<t.mask*3/\LS.Led w t es.size
variable {A:Around} {E:B0} {s:Shared} {a b:Addr} {ks:List aB} {k:aB} {B:Addr->Prop}
theorem SetK.new {h:Heap} (g:h.get? a=some (LS.bare !(w.params.followText "set-order"))):SetK prog w B h a [] :=
 ⟨#[],0,_,[],g,.nil,.refl _,List.nodup_nil,⟨.inl rfl,rfl,rfl,List.Pairwise.nil,fun j h=>(nomatch h),fun q h=>(nomatch h)⟩,show 0*5<7*3 by decide,by
  unfold LS.Led
  cases e:w.params.followText "set-order" with
  | true=>exact .inl rfl
  | false=>exact .inr ⟨rfl,λz=>absurd rfl z⟩⟩
theorem A2 {Q:Bool->Shared->Prop} (hu:A.units+1<cLine) (S:SetK prog w B s.heap a ks) (hk:TK.IsT (ax prog w) s.heap k b) (tx:k.all byV2=false) (hB:B b) (fw:ks.length<76)
  (h:∀h' c ks2,Heap.SameBut a s.heap h'->SetK prog w B h' a ks2->ks2.length<=ks.length+1->(∀x,x∈ks2↔x∈ks\/x=k)->Q c { s with heap:=h' }):wpAny (model prog w) A (setAddHashed a (.ref b) ((bq prog w).hash k)) Q E s:=by
 obtain⟨es,ep,t,ks',ho,el,pk,nd,b0,fe,ld⟩:=S;have lk:es.size=ks.length:=by rw[<-Qi,Xr el,pk.length_eq]
 have m7:7<=t.mask:=by rcases b0.msk with e|e|e <;> omega
 have fl:es.size<=t.mask:=by omega
 have hf:t.fits es.size=true:=by have:=b0.fits (by rw[Qb,Qi];exact fl);rwa [Qb,Qi]at this
 have pz:t.place.toList.length=es.toList.length:=by rw[b0.len,Qb]
 obtain⟨e0,he0,ne0⟩:=rn (m:=t.mask) b0.up.nodup (by rw[pz,Qi];omega);obtain⟨n,hn,em⟩:=sW (L:=(·∈t.place.toList)) b0.msk ((bq prog w).hash k) he0 ne0;have t127:t.mask<=127:=by rcases b0.msk with e|e|e <;> omega
 unfold setAddHashed setAddHashedIn;refine QZ (Qa (Xw ho rfl hf ?_));dsimp only;rw[Qo (show ¬(byScan (.ref b) es=true) by simp[byScan,Value.scannable])];unfold setSearch;refine Qa (yM hu ho b0 fl el hk n (beg t.mask (bits ((bq prog w).hash k) % (t.mask+1),bits ((bq prog w).hash k))) 100000 none rfl em (by unfold turns at hn;omega) hn rfl ?_);by_cases c:k∈ks
 ·refine .inl ⟨?_,Qf (h s.heap false ks (Heap.SameBut.refl a s.heap) ⟨es,ep,t,ks',ho,el,pk,nd,b0,fe,ld⟩ (X3 _) λx=>⟨.inl,λz=>z.elim id λe=>e▸c⟩)⟩;obtain⟨i,hi,ei⟩:=Xf (pk.mem_iff.mpr c);have ei:ks'[i]?=some k:=by rw[Qe hi,ei]
  have hi2:i<es.toList.length:=by rw[Xr el];exact hi
  have hi3:i<t.place.toList.length:=by omega
  obtain⟨k2,h1,_,_,_,h4,_⟩:=gz el (Qe hi2);rw[ei]at h1;cases h1
  have r:=b0.rch (t.place.toList[i],es.toList[i].1) (Qk (i:=i) (by
   rw[List.getElem?_zip_eq_some]
   exact⟨Qe hi3,by rw[Qp,Qe hi2];rfl⟩))
  dsimp only at r;rw[h4]at r;obtain⟨d,d1,d2⟩:=Ah r (Q9 hi3) em;exact⟨d,i,d1,by rw[tW]at d2;rw[Qe hi3];exact congrArg some d2.symm,ei⟩
 refine .inr ⟨λz=>c (pk.mem_iff.mp z),?_⟩;obtain⟨r,nl⟩:=em.rch
 have jb:(itn (adv t.mask) n (beg t.mask (bits ((bq prog w).hash k) % (t.mask+1),bits ((bq prog w).hash k)))).j<t.mask+1:=v9 n _ (by
  have l:bits ((bq prog w).hash k) % (t.mask+1)<t.mask+1:=Nat.mod_lt _ (Nat.succ_pos _);have:=oV l;show bits ((bq prog w).hash k) % (t.mask+1)+(runEnd t.mask (bits ((bq prog w).hash k) % (t.mask+1))-bits ((bq prog w).hash k) % (t.mask+1))<_
  omega)
 generalize (itn (adv t.mask) n (beg t.mask (bits ((bq prog w).hash k) % (t.mask+1),bits ((bq prog w).hash k)))).j=j at *;dsimp only;refine Qa (Xw ho rfl hf ?_);dsimp only;obtain⟨p,ep',p1,p2,p3,p4,b1⟩:=b0.put jb nl r;rw[<-ep'];generalize (t.put j).1=t1 at *;have lp:es.size=(es.toList.map (·.1)).length:=by simp
 rw[<-lp]at p1;have il:=nG es p ((bq prog w).hash k,Value.ref b) p1;generalize insertAt es p ((bq prog w).hash k,Value.ref b)=es1 at *;have ih1:es1.toList.map (·.1)=(es.toList.map (·.1)).take p++(bq prog w).hash k::(es.toList.map (·.1)).drop p:=by rw[il,QI,Qw,List.map_take,List.map_drop]
 rw[<-ih1]at b1;have z1:es1.size=es.size+1:=by rw[<-Qi,il];simp only[Qh,XA,QO,XG,Qi];omega
 have el1:Paired (El prog w B s.heap) es1.toList (ks'.take p++k::ks'.drop p):=by rw[il];exact iN ⟨b,rfl,hk,rfl,hB⟩ p el
 have pk1:(ks'.take p++k::ks'.drop p).Perm (ks++[k]):=by
  refine List.perm_middle.trans ?_;rw[X6];exact(pk.cons k).trans (List.perm_append_singleton k ks).symm
 have nd1:(ks++[k]).Nodup:=X4.mpr ⟨nd,by simp,λx hx y hy e=>c (by simp at hy;rw[<-hy,<-e];exact hx)⟩;have mm:∀x,x∈ks++[k]↔x∈ks\/x=k:=λx=>by simp
 have fin:∀t2:SetTable,t2.mask=t.mask->Tb t2 (es1.toList.map (·.1))->LS.Led w t2 es1.size ->
   wpAny (model prog w) A (storeSet a es1 t2 >>= λ_=>if (!false&&t2.tooFull)=true then setRelay a (grown (es.size+1)) >>= λ_=>pure true else pure true) Q E s:=λt2 em b2 ld2=>by
  have fill2:t2.fill=es1.size:=by unfold SetTable.fill;have:=b2.len;rw[Qi,Qb,Qi]at this;rw[this,b2.dum];rfl
  refine Qa (wpAny_storeSet_of ho rfl ?_ (by rw[XZ];omega));have g1:(s.heap.update a (Obj.putSet es1 t2)).get? a=some (wu es1 (ep+1) t2):=Xm (Obj.putSet es1 t2) ho rfl;have sb1:=Xa s.heap a (Obj.putSet es1 t2);have elA:∀{h':Heap} {l:List (Int × Value)} {ks3:List aB},Heap.SameBut a s.heap h'->Paired (El prog w B s.heap) l ks3->Paired (El prog w B h') l ks3:=λsb x=>Paired.mapT x λe k q=>q.at ho (λz=>absurd (Value.type.inj z) (by decide)) λb o hb e=>(sb.2 b hb).trans e;by_cases tf:t2.tooFull=true
  ·rw[tf,Qs (show (!false&&true)=true from rfl)];unfold tooFull at tf;rw[fill2,em]at tf;have tf:t.mask*3<=es1.size*5:=Xu tf
   obtain⟨m',hm',es',fw'⟩:∃m',Msk m'/\sizeAbove (grown (es.size+1))=m'+1/\es1.size*5<m'*3:=by
    rcases b0.msk with e|e|e
    ·have:es.size=4:=by omega
     rw[this];exact⟨31,.inr (.inl rfl),by decide +kernel,by omega⟩
    ·have:es.size=18:=by omega
     rw[this];exact⟨127,.inr (.inr rfl),by decide +kernel,by omega⟩
    omega
   have hf2:t2.fits es1.size=true:=by have:=b2.fits (by rw[Qb,Qi];omega);rwa [Qb,Qi]at this
   obtain⟨t3,order,l1,l2,l3,l4,l5,l6⟩:=AL hm' es1 (by omega) t2.finger (t2.movedTo m') t2.led t2.plain
   have rl:t2.relaid (es1.map (·.1)) (grown (es.size+1))=some (t3,order):=by
    unfold relaid;rw[es',Nat.add_sub_cancel];exact l1
   have z3:(order.filterMap (es1[·]?)).size=es1.size:=by rw[<-Qi,l5.length_eq,Qi]
   unfold setRelay;refine Qa (Qa (Xw (s:={ s with heap:=s.heap.update a (Obj.putSet es1 t2) }) g1 rfl hf2 ?_));dsimp only;have m127:m'<=127:=by rcases hm' with e|e|e <;> omega
   rw[Qo (show ¬sizeAbove (grown (es.size+1))>sizeLine by rw[es',XZ];omega),rl];have nz:((order.filterMap (es1[·]?)).size != es1.size)=false:=by rw[z3];simp
   generalize hS:storeSet=ST
   wp_walk
   subst hS;dsimp only;refine wpAny_storeSet_of (s:={ s with heap:=s.heap.update a (Obj.putSet es1 t2) }) g1 rfl ?_ (by rw[z3,XZ];omega);obtain⟨ks4,e4,p4'⟩:=paired_perm l5 el1;have sb2:=sb1.trans (Xa (s.heap.update a (Obj.putSet es1 t2)) a (Obj.putSet (order.filterMap (es1[·]?)) t3));refine Qf (h _ true (ks++[k]) sb2 ⟨_,ep+1+1,t3,ks4,Xm (Obj.putSet (order.filterMap (es1[·]?)) t3) g1 rfl,elA sb2 e4,p4'.trans pk1,nd1,l6,by rw[z3,l2];exact fw',?_⟩ (by simp) mm);rw[z3];exact ld2.imp id λz=>⟨l3.trans z.1,λy=>l4.trans (z.2 y)⟩
  rw[Bool.eq_false_iff.mpr tf,Qo (by simp)];refine Qf (h _ true (ks++[k]) sb1 ⟨es1,ep+1,t2,_,g1,elA sb1 el1,pk1,nd1,b2,?_,ld2⟩ (by simp) mm);unfold tooFull at tf;rw[fill2]at tf;have:=of_decide_eq_false (Bool.eq_false_iff.mpr tf);omega
 have tb_off:Tb { t1 with plain:=false } (es1.toList.map (·.1)):=⟨b1.msk,b1.dum,b1.len,b1.up,b1.bd,b1.rch⟩;have led2:∀t2:SetTable,t2.led=t.led->t2.plain=false->LS.Led w t2 es1.size:=λt2 e1 e2=>ld.imp id λz=>⟨e1.trans z.1,λ_=>e2⟩;by_cases pl:t1.plain=true
 ·rw[Qs pl];refine Qa (byv hk ?_);rw[tx];exact fin { t1 with plain:=false } p2 tb_off (led2 _ p3 rfl)
 rw[Qo pl];refine Qa (Qf ?_);exact fin t1 p2 b1 (led2 _ p3 (Bool.eq_false_iff.mpr pl))
end
end Ht
set_option maxHeartbeats 4000000
namespace LG
open PySem PySem.Spec PyProof.Rows LS
section
variable {prog:Program} {w:World} {A:Around} {E:B0} {s:Shared}
theorem call_set_gen {l:Addr} {its:Array Value} {G:Heap->Addr->Prop} {Q:B0} (hh:A.handled=none) (hl:s.heap.IsList l its)
  (loop:∀(I S:Addr) (s0:Shared) (R:Result->Shared->Prop),(∀b o,s.heap.get? b=some o->s0.heap.get? b=some o)->s.heap.objs.size<=S->s.heap.objs.size<=I->l≠I->S∉[I,l]->(s0.heap.IsListIter I l 0/\s0.heap.IsList l its)->s0.heap.get? S=some (bare !(w.params.followText "set-order")) ->
   (∀s',Moved [S,I] (λa b=>b=a) s0 s'->G s'.heap S->R (.ok (.ret .none)) s')->codeAny (model prog w) A.in1.in1 (.builtin "set.update.loop" ⟨[.ref S,.ref I],[]⟩) R s0)
  (h:∀(h1:Heap) (tk:Nat),G h1 s.heap.objs.size->(∀b o,s.heap.get? b=some o->h1.get? b=some o)->Q (.ref s.heap.objs.size) { s with heap:=h1,toks:=tk }) :
  wpAny (model prog w) A (call (.type "set") [.ref l]) Q E s:=by
 obtain⟨cl,tl,mro⟩:=XM.mro;have y1:=XM.made;have y2:=XM.sub;refine wpAny_call (codeAny_of_tree ?_);show wpAny _ _ (callAny (.type "set") ⟨[.ref l],[]⟩) _ _ _;refine Qf ⟨Code.quiet_builtin _ (by decide +kernel),XF F.entry_type_call ?_⟩;rw[Around.under_plain (weight_type_call_type "set" [.ref l] []) rfl];have y3:=XM.notType;have y4:=XM.canCreate;have y5:=F.typeCall_set_1 (.ref l)
 repeat (any_goals (first|assumption|wp_step))
 refine codeAny_mono (n9 (.ref l) (E:=E) (Q₁:=λv s1=>∃led:Bool,led=!(w.params.followText "set-order")/\v=.ref s.heap.objs.size/\s1={ s with heap:=s.heap.push (bare led) }) ⟨_,rfl,rfl,rfl⟩) λr s1 hr=>?_
 cases r with
 | error e=>exact hr
 | ok fl =>
 cases fl with
 | ret obj =>
  obtain⟨led,hled,rfl,rfl⟩:=hr;have hS:(s.heap.push (bare led)).get? s.heap.objs.size=some (bare led):=Qt _ rfl;have hT:Shared.TypeIs { s with heap:=s.heap.push (bare led) } (.ref s.heap.objs.size) "set" := ⟨_,hS,rfl⟩;have y6:=XM.init.lookup;have y7:=XM.init.bind (.ref s.heap.objs.size)
  repeat (any_goals (first|assumption|wp_step))
  refine codeAny_mono (codeAny_call_builtin (R:=wants (λv s2=>v=.none/\∃h1 tk,s2={ s with heap:=h1,toks:=tk }/\G h1 s.heap.objs.size/\∀b o,s.heap.get? b=some o->h1.get? b=some o) E) XM.init.plain F.entry_set_init (check_set_init_1 hT ?_)) λr2 s2 hr2=>?_
  ·obtain⟨ol,hol,hcl,nl,hdl⟩:=hl;obtain⟨ocls,odict,odata,oslots⟩:=ol;simp only at hcl hdl;subst hcl;subst hdl;have hol1:(s.heap.push (bare led)).get? l=some { cls:=.type "list", dict:=odict,data:=.seq its nl,slots:=oslots }:=Qc _ hol;have y8:=F.sub_list_set;have y9:=F.sub_list_frozenset;have y0:(Value.type "list" == Value.type "dict")=false:=by decide
   have hl1:(s.heap.push (bare led)).IsList l its:=⟨_,hol1,rfl,nl,rfl⟩;unfold Builtin.«set.__init__» noKeywords Builtin.Frozenset.updateFrom;generalize hPI:pyIter=PI
   wp_walk
   subst hPI;refine wpAny_pyIter_list hl1 ?_;refine Qa (wpAny_runValue ?_);have lS:l<s.heap.objs.size:=Qq hol
   have nI:l≠(s.heap.push (bare led)).objs.size:=by
    rw[Xg];exact QB (Nat.lt_succ_of_lt lS)
   have nF:s.heap.objs.size∉[(s.heap.push (bare led)).objs.size,l]:=by
    rw[Xg];simp only[Qj,Qy,QA,Xj,not_or];exact⟨QB (Nat.lt_succ_self _),Nat.ne_of_gt lS⟩
   refine loop _ _ _ _ (λb o e=>Qc _ (Qc _ e)) (Qg _) (by rw[Xg];exact X3 _) nI nF ⟨⟨_,Qt _ rfl,rfl,rfl⟩,(hl1.push _)⟩ ?_ λs3 mv q=>?_
   ·have e:((s.heap.push (bare led)).push { cls:=.type "list_iterator", data:=.fields #[.ref l,.int 0 0] }).get? s.heap.objs.size=some (bare led):=Qc _ hS;rw[e,hled]
   obtain⟨h3,g3,d3,tk3,os3⟩:=s3;obtain rfl:g3=s.gens:=mv.gens;obtain rfl:d3=s.drawn:=mv.drawn;obtain rfl:os3=s.os:=mv.os;show wpAny _ _ _ _ _ _;refine Qf ?_;show wpAny _ _ (ret Value.none) _ _ _;refine Qf ⟨rfl,h3,tk3,rfl,q,λb o e=>?_⟩;have lb:=Qq e;have z1:b≠s.heap.objs.size:=QB lb
   have z2:b≠(s.heap.push (bare led)).objs.size:=by
    rw[Xg];exact QB (Nat.lt_succ_of_lt lb)
   exact mv.heap b o (by simp only[Qj,Qy,QA,Xj,not_or];exact⟨z1,z2⟩) (Qc _ (Qc _ e))
  cases r2 with
  | error e=>exact hr2
  | ok fl2 =>
  cases fl2 with
  | ret r =>
   obtain⟨rfl,h1,tk,rfl,q,k⟩:=hr2
   repeat (any_goals (first|assumption|wp_step))
   exact h _ _ q k
  | _=>exact hr2.elim
 | _=>exact hr.elim
end
end LG
set_option maxHeartbeats 400000
namespace LS
open PySem PySem.Spec PyProof.Rows
theorem fW {α:Type}:∀{l:List α} {i:Nat} (h:i<l.length),(l[i]::l.eraseIdx i).Perm l
 | a::l,0,_=>.refl _
 | a::l,i+1,h=>by
  have hi:i<l.length:=by simpa using h
  have q:=fW (l:=l) (i:=i) hi;show (l[i]::a::l.eraseIdx i).Perm (a::l);exact(List.Perm.swap _ _ _).trans (q.cons a)
theorem qS {α:Type} (next:Nat->Nat):∀(fuel k:Nat) (left:List α) (out:Array α),left.length=fuel->(pickOrder.go next fuel k left out).toList.Perm (out.toList++left)
 | 0,k,left,out,h=>by
  obtain rfl:left=[]:=List.length_eq_zero_iff.mp h;simp[pickOrder.go]
 | fuel+1,k,left,out,h=>by
  have lt:next k % left.length<left.length:=Nat.mod_lt _ (by omega);have e:left[next k % left.length]?=some left[next k % left.length]:=Qe lt;unfold pickOrder.go;rw[e];refine(qS next fuel (k+1) _ _ (by rw[List.length_eraseIdx_of_lt lt];omega)).trans ?_;rw[Array.toList_push,XX];exact List.Perm.append_left _ (fW lt)
theorem pick_perm {α:Type} (next:Nat->Nat) (xs:Array α):(pickOrder next xs).toList.Perm xs.toList:=by
 have:=qS next xs.size 0 xs.toList #[] (by simp);unfold pickOrder;simpa using this
section
variable {prog:Program} {w:World} {A:Around} {E:B0} {s:Shared} {a it:Addr} {es:Array (Int × Value)} {ep:Nat} {t:SetTable} {i:Nat}
theorem kB {src:Source} {n:Nat} {Q:Nat->Shared->Prop} (hn:n≠0) (h:∀i d,i<n->Q i { s with drawn:=d }):wpAny (model prog w) A (choose src n) Q E s:=λΓ p hΓ=>by
 show Sem.wp (model prog w) Γ (.choose src n .pure) _ _ p s;rw[Sem.wp_choose];refine⟨hn,?_⟩;rw[Sem.wp_pure];exact h _ _ (Nat.mod_lt _ (Nat.pos_of_ne_zero hn))
theorem eP {α:Type}:∀(n:Nat) (xs:List α) (s:Shared) (Q:List α->Shared->Prop),xs.length=n->(∀ys d,ys.Perm xs->Q ys { s with drawn:=d })->wpAny (model prog w) A (drawOrder n xs) Q E s
 | 0,xs,s,Q,h,q=>by
  obtain rfl:xs=[]:=List.length_eq_zero_iff.mp h;exact Qf (q [] s.drawn .nil)
 | n+1,[],s,Q,h,q=>by cases h
 | n+1,x::xs,s,Q,h,q=>by
  unfold drawOrder;refine Qa (kB (by simp) λi d hi=>?_);rw[Qe hi];dsimp only;refine Qa (eP n _ _ _ (by rw[List.length_eraseIdx_of_lt hi];simp at h ⊢;omega) λys d2 pm=>Qf (q _ d2 ?_));exact(List.Perm.cons _ pm).trans (fW hi)
variable {Q:Option (Value × Nat)->Shared->Prop}
theorem jX {slot:Nat} (ht:w.params.followText "set-order" = true) (hs:dP s.heap a es ep t) (h:Q (((pickOrder (w.params.setOrder a ep) es)[i]?).map λe=>(e.2,slot)) s):wpAny (model prog w) A (setNext a slot i ep) Q E s:=by
 obtain⟨os,hos,hds,_,hf⟩:=id hs;unfold setNext setsByText;refine Qa (Xw hos hds hf ?_);dsimp only;refine Qa (Qa (wpAny_askSetting (Qf ?_)));rw[Qs (show (Setting.params ⟨(model prog w).prog,(model prog w).w.params⟩).followText "set-order" = true from ht),Qo (by simp)];unfold setWalk setsByText;refine Qa (Qa (Xw hos hds hf ?_));dsimp only;refine Qa (Qa (wpAny_askSetting (Qf ?_)));rw[Qs (show (Setting.params ⟨(model prog w).prog,(model prog w).w.params⟩).followText "set-order" = true from ht)];refine Qa (wpAny_askSetting (Qf ?_));exact Qf h
theorem mZ {slot:Nat} (ht:w.params.followText "set-order" = false) (hs:dP s.heap a es ep t) (h1:es.size<=1) (hl:t.led=true)
  (h:Q (match es[SetTable.below t.place slot]?,t.place[SetTable.below t.place slot]? with|some (_,x),some j=>some (x,j+1)|_,_=>none) s):wpAny (model prog w) A (setNext a slot i ep) Q E s:=by
 obtain⟨os,hos,hds,_,hf⟩:=id hs;unfold setNext setsByText;refine Qa (Xw hos hds hf ?_);dsimp only;refine Qa (Qa (wpAny_askSetting (Qf ?_)));rw[Qo (show ¬(Setting.params ⟨(model prog w).prog,(model prog w).w.params⟩).followText "set-order" = true by rw[show (Setting.params ⟨(model prog w).prog,(model prog w).w.params⟩).followText "set-order" = false from ht];exact Qr)];refine wpAny_ite_split (λhab=>?_) λ_=>?_
 ·have hab:(!t.plain&&decide (es.size>1))=true:=hab;simp at hab;omega
 refine Qa ?_;show wpAny _ _ (if (!t.led&&!es.isEmpty)=true then unsupported "set:maker-not-led" else pure ()) _ _ _;rw[Qo (by rw[hl];simp)];exact Qf (Qf h)
theorem oD (hh:A.handled=none) (ht:w.params.followText "set-order" = true) (I:Addr) (ne:a≠I):Walks prog w A I [I,a] [I] es.size (λi v=>∃e,(pickOrder (w.params.setOrder a ep) es).toList[i]?=some e/\v=e.2) (λi h=>fh h I a (.int 0 0) i es.size ep/\dP h a es ep t) where
 sub:=λb hb=>by simp at hb;simp[hb]
 frame:=λ_ _ _ st hk=>⟨st.1.at λo e=>hk I (by simp) o e,st.2.at λo e=>hk a (by simp) o e⟩
 item:=λi s Q E hi st hQ=>by
  have z:(pickOrder (w.params.setOrder a ep) es).size=es.size:=by simpa using(pick_perm (w.params.setOrder a ep) es).length_eq
  obtain⟨e,he⟩:∃e,(pickOrder (w.params.setOrder a ep) es)[i]?=some e:=⟨_,QM (by rw[z];exact hi)⟩;refine jY (slot:=0) (next:=0) (x:=e.2) st.1 st.2 (λQ E q=>jX ht st.2 (by rw[he];exact q)) λh' hit' hs'=>?_;exact hQ _ h' s.toks ⟨e,by rw[Q6];exact he,rfl⟩ ⟨hit',st.2.at λo e=>hs'.extBut a o ne e⟩ λb o hb e=>hs'.extBut b o (λh=>hb (by simp[h])) e
 done:=λs Q E st hQ=>by
  have z:(pickOrder (w.params.setOrder a ep) es).size=es.size:=by simpa using(pick_perm (w.params.setOrder a ep) es).length_eq
  exact jZ (slot:=0) hh st.1 st.2 (λQ E q=>jX ht st.2 (by rw[Array.getElem?_eq_none (by rw[z];exact Qg _)];exact q)) λh' he'=>hQ h' s.toks λb o hb e=>he' b o (λh=>hb (by simp[h])) e
 self:=λ_ _ _ _ st hQ=>lB st.1 hQ
theorem lT (hh:A.handled=none) (I tp:Addr) (pl:List Nat) (hp:pl.Perm (List.range es.size)) (ne:a≠I) (nt:tp≠I):Walks prog w A I [I,a,tp] [I] es.size (λi v=>∃e,(pl.filterMap λj=>es[j]?)[i]?=some e/\v=e.2)
  (λi h=>fh h I a (.ref tp) i es.size ep/\dP h a es ep t/\h.get? tp=some { cls:=.type "tuple", data:=.seq (pl.map λ(i:Nat)=>rawInt i).toArray }) where
 sub:=λb hb=>by simp at hb;simp[hb]
 frame:=λ_ _ _ st hk=>⟨st.1.at λo e=>hk I (by simp) o e,st.2.1.at λo e=>hk a (by simp) o e,hk tp (by simp) _ st.2.2⟩
 item:=λi s Q E hi st hQ=>by
  have pz:pl.length=es.size:=by simpa using hp.length_eq
  have lt:i<pl.length:=by omega
  have all:∀j∈pl,∃e,es[j]?=some e:=λj hj=>⟨_,QM (by simpa using hp.mem_iff.mp hj)⟩;obtain⟨e,he⟩:=all pl[i] (Q9 lt)
  have fm:∀(l:List Nat) (i:Nat) (h:i<l.length),(∀j∈l,∃e,es[j]?=some e)->(l.filterMap λj=>es[j]?)[i]?=es[l[i]]?:=by
   intro l
   induction l with
   | nil=>intro i h;simp at h
   | cons x l ih =>
   intro i h al;obtain⟨e,he⟩:=al x Xp;rw[List.filterMap_cons_some he]
   cases i with
   | zero=>rw[List.getElem?_cons_zero];exact he.symm
   | succ i=>rw[List.getElem?_cons_succ];exact ih i (by simpa using h) λj hj=>al j (Qn _ hj)
  refine pU (p:=pl[i]) st.1 st.2.1 st.2.2 (Qe lt) he λh' hit' hs'=>?_;exact hQ _ h' s.toks ⟨e,by rw[fm pl i lt all];exact he,rfl⟩ ⟨hit',st.2.1.at λo e=>hs'.extBut a o ne e,hs'.extBut tp _ nt st.2.2⟩ λb o hb e=>hs'.extBut b o (λh=>hb (by simp[h])) e
 done:=λs Q E st hQ=>by
  have pz:pl.length=es.size:=by simpa using hp.length_eq
  exact pV hh st.1 st.2.1 st.2.2 (QY (by omega)) λh' he'=>hQ h' s.toks λb o hb e=>he' b o (λh=>hb (by simp[h])) e
 self:=λ_ _ _ _ st hQ=>lB st.1 hQ
theorem kz (j k:Nat):SetTable.below #[j] k=if j<k then 1 else 0:=by
 unfold SetTable.below;simp[SetTable.below.go]
theorem rM (hh:A.handled=none) (ht:w.params.followText "set-order" = false) (h1:es.size<=1) (hl:t.led=true) (I:Addr) (ne:a≠I):Walks prog w A I [I,a] [I] es.size (λi v=>∃e,es.toList[i]?=some e/\v=e.2)
  (λi h=>(∃slot:Nat,fh h I a (.int slot 0) i es.size ep/\(i=0->slot=0)/\(i=1->∃j,t.place=#[j]/\slot=j+1))/\dP h a es ep t) where
 sub:=λb hb=>by simp at hb;simp[hb]
 frame:=λ_ _ _ st hk=>let ⟨⟨sl,x,y⟩,z⟩:=st;⟨⟨sl,x.at λo e=>hk I (by simp) o e,y⟩,z.at λo e=>hk a (by simp) o e⟩
 item:=λi s Q E hi st hQ=>by
  obtain⟨⟨sl,x,y,_⟩,z⟩:=st;obtain rfl:i=0:=by omega
  obtain rfl:=y rfl;have e1:es.size=1:=by omega
  obtain⟨os,hos,hds,_,hf⟩:=id z;have pz:t.place.size=1:=by simp[SetTable.fits]at hf;omega
  obtain⟨j,hj⟩:=Array.size_eq_one_iff.mp pz;obtain⟨e,he⟩:=Array.size_eq_one_iff.mp e1;refine jY (slot:=0) (next:=j+1) (x:=e.2) x z (λQ E q=>mZ ht z h1 hl (by rw[hj,kz];simp[he];exact q)) λh' hit' hs'=>?_;exact hQ _ h' s.toks ⟨e,by rw[he];rfl,rfl⟩ ⟨⟨j+1,hit',λq=>by omega,λ_=>⟨j,hj,rfl⟩⟩,z.at λo e=>hs'.extBut a o ne e⟩ λb o hb e=>hs'.extBut b o (λh=>hb (by simp[h])) e
 done:=λs Q E st hQ=>by
  obtain⟨⟨sl,x,y1,y2⟩,z⟩:=st;refine jZ hh x z (λQ E q=>mZ ht z h1 hl ?_) λh' he'=>hQ h' s.toks λb o hb e=>he' b o (λh=>hb (by simp[h])) e;by_cases e1:es.size=1
  ·obtain⟨j,hj,rfl⟩:=y2 e1;rw[hj,kz];simpa[e1] using q
  have e0:es=#[]:=by simpa using(show es.size=0 by omega)
  subst e0;simpa using q
 self:=λ_ _ _ _ st hQ=>lB st.1.choose_spec.1 hQ
end
end LS
namespace LG
open PySem PySem.Spec PyProof.Rows PySem.Calls LS
section
variable {prog:Program} {w:World} {A:Around} {E:B0} {s:Shared} {a:Addr}
variable {es:Array (Int × Value)}
theorem uh {o:Obj} {ep:Nat} {t:SetTable} {Q:B0} (hh:A.handled=none) (ho:s.heap.get? a=some o) (hc:o.cls=.type "set") (hd:o.data=.set es ep t) (hb:es.size<scanBound) (hf:t.fits es.size=true) (hl:Led w t es.size)
  (h:∀h' d I (od:List (Int × Value)) fp St,od.Perm es.toList->(∀b o,s.heap.get? b=some o->h'.get? b=some o)->s.heap.objs.size<=I->(∀b∈fp,b=a\/s.heap.objs.size<=b)->Walks prog w A I fp [I] es.size (λi v=>∃e,od[i]?=some e/\v=e.2) St->St 0 h'->Q (.ref I) { s with heap:=h',drawn:=d }) :
  wpAny (model prog w) A (pyIter (.ref a)) Q E s:=by
 have hT:s.TypeIs (.ref a) "set" := ⟨o,ho,hc⟩;have hlt:=Qq ho;refine wpAny_pyIter_slot hT F.slot_set_iter (Q4 F.slot_set_iter hT i_ ?_ (F.args_set_iter_1 _));unfold Builtin.«frozenset.__iter__» Builtin.Frozenset.slot0 slotArgs;simp only[List.isEmpty_nil,X1,QG,↓reduceIte,bind_assoc,List.length_nil,bne_self_eq_false];unfold Builtin.Frozenset.addrOf Builtin.Frozenset.sizeOf;refine Qa (Qf ?_)
 try dsimp only
 refine Qa (Qf ?_);refine Qa (Qa (wpAny_setEntries_of ho hd hf (Qf ?_)));unfold setDrawn setsByText;refine Qa (Qa (Xw ho hd hf ?_));dsimp only;refine Qa (Qa (wpAny_askSetting (Qf ?_)));show wpAny _ _ (pure (!(w.params.followText "set-order")&&(!t.plain&&decide (es.size>1)))) _ _ _;refine Qf ?_;have hs0:dP s.heap a es ep t:=⟨o,ho,hd,hc,hf⟩
 have plainway:∀(oI:Obj),oI={ cls:=.type "set_iterator", data:=.fields #[.int 0 0,.int 0 0,.ref a,.int es.size 0,.int ep 0] }->fh (s.heap.push oI) s.heap.objs.size a (.int ((0:Nat):Int) 0) 0 es.size ep/\dP (s.heap.push oI) a es ep t:=λoI e=>by
  subst e;exact⟨⟨_,Qt _ rfl,rfl,rfl⟩,hs0.at λo e=>Qc _ e⟩
 refine wpAny_ite_split (λhab=>?_) λhab=>?_
 ·simp only[Xz,Bool.not_eq_true',decide_eq_true_eq]at hab;refine Qa (eP es.size (List.range es.size) s _ (by simp) λpl d pm=>?_);refine Qa (wpAny_newTuple ?_ (by rw[Qb,pm.length_eq,List.length_range];exact fits_of_scanBound hb));unfold setEpoch;have ho1:(s.heap.push { cls:=.type "tuple", data:=.seq (pl.map λ(i:Nat)=>rawInt i).toArray }).get? a=some o:=Qc _ ho;refine Qa (Qa (Xw (s:={ s with heap:=s.heap.push { cls:=.type "tuple", data:=.seq (pl.map λ(i:Nat)=>rawInt i).toArray },drawn:=d }) ho1 hd hf (Qf ?_)));unfold newFields;refine Qa (Xi ?_ (by size_fits));refine Qf ⟨_,rfl, "set_iterator", _,⟨_,Qt _ rfl,rfl⟩,cx.lookup,?_⟩;have ne:a≠(s.heap.push { cls:=.type "tuple", data:=.seq (pl.map λ(i:Nat)=>rawInt i).toArray }).objs.size:=by rw[Xg];exact QB (Nat.lt_succ_of_lt hlt)
  have nt:s.heap.objs.size≠(s.heap.push { cls:=.type "tuple", data:=.seq (pl.map λ(i:Nat)=>rawInt i).toArray }).objs.size:=by rw[Xg];exact QB (Nat.lt_succ_self _)
  refine h _ _ _ (pl.filterMap λj=>es[j]?) _ _ ((pm.filterMap _).trans (by rw[filterMap_getElem?_range])) (λb o e=>Qc _ (Qc _ e)) (by rw[Xg];exact X3 _) (λb hb=>?_) (lT (ep:=ep) (t:=t) hh _ _ pl pm ne nt) ?_
  ·simp only[Qj,QA,Xj]at hb;rcases hb with rfl|rfl|rfl
   ·exact .inr (by rw[Xg];exact X3 _)
   ·exact .inl rfl
   exact .inr (Qg _)
  exact⟨⟨_,Qt _ rfl,rfl,rfl⟩,hs0.at λo e=>Qc _ (Qc _ e),Qc _ (Qt _ rfl)⟩
 refine Qa (Qf ?_);unfold setEpoch;refine Qa (Qa (Xw ho hd hf (Qf ?_)));unfold newFields;refine Qa (Xi ?_ (by size_fits));refine Qf ⟨_,rfl, "set_iterator", _,⟨_,Qt _ rfl,rfl⟩,cx.lookup,?_⟩;obtain⟨i0,s0⟩:=plainway _ rfl;have ne:a≠s.heap.objs.size:=QB hlt
 have fpok:∀b∈[s.heap.objs.size,a],b=a\/s.heap.objs.size<=b:=λb hb=>by
  simp only[Qj,QA,Xj]at hb;rcases hb with rfl|rfl
  ·exact .inr (Qg _)
  exact .inl rfl
 cases ht:w.params.followText "set-order" with
 | true=>exact h _ s.drawn _ _ _ _ (pick_perm (w.params.setOrder a ep) es) (λb o e=>Qc _ e) (Qg _) fpok (oD (ep:=ep) (t:=t) hh ht _ ne) ⟨i0,s0⟩
 | false =>
 rcases hl with z|⟨z1,z2⟩
 ·rw[ht]at z;cases z
 have h1:es.size<=1:=by
  rw[ht]at hab;by_cases e0:es.size=0
  ·omega
  rw[z2 e0]at hab;simp at hab;omega
 exact h _ s.drawn _ _ _ _ (.refl _) (λb o e=>Qc _ e) (Qg _) fpok (rM (ep:=ep) hh ht h1 z1 _ ne) ⟨⟨0,i0,λ_=>rfl,λz=>by cases z⟩,s0⟩
theorem vM {r:Addr} {Q:Bool->Shared->Prop} (hT:s.TypeIs (.ref r) "set") (h:Q false s):wpAny (model prog w) A (Builtin.List.listLengthHint (.ref r)) Q E s:=by
 unfold Builtin.List.listLengthHint;refine Qa (wpAny_specialOf hT PySem.F.slot_set_len.lookup ?_);generalize hid:("set.__len__" : String)=id0
 wp_delta
 rw[show splitId id0=some ("set", "__len__") from by subst hid;decide +kernel];subst hid;refine Qa (wpAny_isInstance (T := "set") (b:=true) hT (by rw[isSubtype_type];kernel_rfl) ?_);refine wpAny_ite_split (λhab=>absurd hab (by decide)) (λ_=>?_);refine wpAny_ite_split (λ_=>?_) (λhab=>absurd (by decide +kernel) hab);refine Qa (wpAny_typeOf hT ?_);exact Qf h
theorem collect_set {o:Obj} {ep:Nat} {t:SetTable} {R:List Value->Shared->Prop} (hh:A.handled=none) (ho:s.heap.get? a=some o) (hc:o.cls=.type "set") (hd:o.data=.set es ep t) (hb:es.size<scanBound) (hf:t.fits es.size=true) (hl:Led w t es.size)
  (h:∀g tk d (od:List (Int × Value)),od.Perm es.toList->(∀b o,s.heap.get? b=some o->g.get? b=some o)->s.heap.objs.size<=g.objs.size->R (od.map (·.2)) { s with heap:=g,toks:=tk,drawn:=d }):wpAny (model prog w) A (collect (.ref a)) R E s:=by
 have hlt:=Qq ho;have nz:es.size<=sizeLine:=fits_of_scanBound hb;unfold collect;refine Qa (wpAny_runValue (XF entry_proto_collect' ?_));rw[Xs PySem.F.plain_proto_collect _];refine Qa (Xi (Qf ⟨plainId_quiet PySem.F.plain_list_iadd _,XF entry_list_iadd' ?_⟩));rw[Xs PySem.F.plain_list_iadd _];show wpAny _ _ (Builtin.List.listExtendWith (.ref s.heap.objs.size) (.ref a) (.ref s.heap.objs.size)) _ _ { s with heap:=s.heap.push { cls:=.type "list", data:=.seq ([]:List Value).toArray } };generalize hL:({ cls:=.type "list", data:=.seq ([]:List Value).toArray }:Obj)=L;have ho1:(s.heap.push L).get? a=some o:=Qc _ ho;have hS:(s.heap.push L).get? s.heap.objs.size=some L:=Qt _ (by rw[<-hL];rfl);have nS:s.heap.objs.size≠a:=Nat.ne_of_gt hlt;unfold Builtin.List.listExtendWith;refine Qa (wpAny_typeOf (T := "set") (s:={ s with heap:=s.heap.push L }) ⟨o,ho1,hc⟩ ?_);have h1:Builtin.List.listSameRef (.ref s.heap.objs.size) (.ref a)=false:=by simp[Builtin.List.listSameRef,nS]
 have h2:(Value.type "set" == Value.type "list")=false:=by decide
 have h3:(Value.type "set" == Value.type "tuple")=false:=by decide
 simp only[h1,h2,h3,Bool.or_false,QG,XD];refine Qa (uh (A:=A.in1) (s:={ s with heap:=s.heap.push L }) hh ho1 hc hd hb hf hl λh' d I od fp St om k hI hfp W st=>?_);have k':∀b o,s.heap.get? b=some o->h'.get? b=some o:=λb o e=>k b o (Qc _ e);have szL:(s.heap.push L).objs.size=s.heap.objs.size+1:=Xg ..;have nI:s.heap.objs.size≠I:=by have:=hI;simp only[szL]at this;omega
 have hI':s.heap.objs.size<=I:=by simp only[szL]at hI;omega
 have nF:s.heap.objs.size∉fp:=λz=>by
  rcases hfp _ z with y|y
  ·exact nS y
  simp only[szL]at y;omega
 have hS1:h'.get? s.heap.objs.size=some L:=k _ _ hS;refine Qa (QZ (vM (s:={ s with heap:=h',drawn:=d }) ⟨o,k' a o ho,hc⟩ ?_))
 have key:∀(g:Heap) (c₁ tk:Nat),St 0 g->(∀b o,b≠s.heap.objs.size->h'.get? b=some o->g.get? b=some o)->g.get? s.heap.objs.size=some { cls:=.type "list", data:=.seq #[] c₁ } ->
   codeAny (model prog w) A (.builtin "list.extend.loop" ⟨[.ref s.heap.objs.size,.ref I,.ref s.heap.objs.size],[]⟩) (λr s'=>∃(g:Heap) (tk:Nat) (acc:Array Value) (c:Nat),r=.ok (.ret (.ref s.heap.objs.size))/\s'={ s with heap:=g,toks:=tk,drawn:=d } /\
   (∀b o,s.heap.get? b=some o->g.get? b=some o)/\g.get? s.heap.objs.size=some { cls:=.type "list", dict:=none,data:=.seq acc c,slots:=#[] }/\PySem.ItemsOf (λi v=>∃e,od[i]?=some e/\v=e.2) acc es.size) { s with heap:=g,toks:=tk,drawn:=d }:=by
  intro g c₁ tk hst hk hS₁;refine codeAny_extend_loopS W.toS nz _ nF _ es.size 0 _ #[] c₁ rfl (QR _) hst hS₁ (ItemsOf.nil _) λs' acc' c' hm hS' hacc=>?_;rw[Moved.eq_with hm];refine⟨s'.heap,s'.toks,acc',c',rfl,rfl,λb o e=>hm.heap b o (λhmem=>?_) (hk b o (QB (Qq e)) (k' b o e)),hS',hacc⟩;rcases Qj.mp hmem with e'|hmem
  ·exact absurd (Qq e) (by rw[e'];exact Zb _)
  exact absurd (Qq e) (by rw[Qy.mp hmem];exact Nat.not_lt.mpr hI')
 have all:∀(acc:Array Value),PySem.ItemsOf (λi v=>∃e,od[i]?=some e/\v=e.2) acc es.size->acc.toList=od.map (·.2):=λacc ⟨z1,z2⟩=>by
  refine List.ext_getElem? λi=>?_;rw[Q6,Qp];by_cases hi:i<es.size
  ·obtain⟨e,e1,e2⟩:=z2 i acc[i] (QM (by omega));rw[QM (by omega),e1,e2];rfl
  rw[Array.getElem?_eq_none (by omega),QY (by rw[om.length_eq,Qi];omega)];rfl
 subst hL;refine wpAny_ite_split (λ_=>?_) (λ_=>Qf ⟨plainId_quiet PySem.F.plain_extend_loop _,codeAny_mono (key h' 0 s.toks st (λb o _ e=>e) hS1) λr s' y=>?_⟩)
 ·refine Qa (wpAny_rule ?_);refine Qa ?_;show wpAny _ _ (updateSeq s.heap.objs.size (·.push .none) >>= λ_=>updateSeq s.heap.objs.size (·.pop)) _ _ _;refine Qa (wpAny_updateSeq hS1 rfl ?_);have hS₂:=Xm (Obj.mapSeq (·.push Value.none)) hS1 rfl;refine wpAny_updateSeq (hz:=by seq_fits) hS₂ rfl ?_;have hS₃:=Xm (Obj.mapSeq (·.pop)) hS₂ rfl;refine Qf ⟨plainId_quiet PySem.F.plain_extend_loop _,codeAny_mono (key _ _ s.toks ?_ (λb o hb e=>?_) hS₃) λr s' y=>?_⟩
  ·refine W.frame 0 _ _ st λb hb o e=>?_;have hbS:b≠s.heap.objs.size:=λh=>nF (h▸hb);exact(Xq _ _ (Ne.symm hbS)).trans ((Xq _ _ (Ne.symm hbS)).trans e)
  ·exact(Xq _ _ (Ne.symm hb)).trans ((Xq _ _ (Ne.symm hb)).trans e)
  obtain⟨g,tk,acc,c,rfl,rfl,kk,at',it⟩:=y;exact Qa (wpAny_load at' (Qf (by rw[all acc it];exact h g tk d od om kk (X7 (Qq at')))))
 obtain⟨g,tk,acc,c,rfl,rfl,kk,at',it⟩:=y;exact Qa (wpAny_load at' (Qf (by rw[all acc it];exact h g tk d od om kk (X7 (Qq at')))))
end
end LG
set_option maxHeartbeats 1000000
namespace Ht
open PySem PySem.Spec PyProof.Rows L2 LS
section
variable {B:Addr->Prop} {prog:Program} {w:World} {A:Around} {E:B0} {s:Shared}
def Tps (h0 h:Heap):Prop:=∀b o,h0.get? b=some o->o.cls=.type "tuple" -> h.get? b=some o
theorem set_loop {R:Result->Shared->Prop} {I S l:Addr} {its:Array Value} {h0:Heap} {kf:Nat->aB} (hh:A.handled=none) (hu:A.units+3<cLine) (nI:l≠I) (nS:S∉[I,l]) (new:∀b∈[S,I],h0.get? b=none)
  (hg:∀i v,its[i]?=some v->∃b,v=.ref b/\TK.IsT (ax prog w) h0 (kf i) b/\(kf i).all byV2=false/\B b) (few:∀us:List aB,us.Nodup->(∀x∈us,∃j,j<its.size/\kf j=x)->us.length<76) :
  ∀(m i:Nat) (s:Shared) (ks:List aB),its.size-i=m->i<=its.size->(s.heap.IsListIter I l i/\s.heap.IsList l its)->Tps h0 s.heap->SetK prog w B s.heap S ks->(∀x,x∈ks↔∃j,j<i/\kf j=x) ->
   (∀s' ks',Moved [S,I] (λa b=>b=a) s s'->SetK prog w B s'.heap S ks'->(∀x,x∈ks'↔∃j,j<its.size/\kf j=x)->R (.ok (.ret .none)) s') ->
   codeAny (model prog w) A (.builtin "set.update.loop" ⟨[.ref S,.ref I],[]⟩) R s:=by
 have W:=(Walks.list (prog:=prog) (w:=w) (show A.in1.handled=none by simp[hh]) I l nI its).toS;have nSI:S≠I:=λz=>nS (by simp[z]);have more:∀b∈[I],b∈[S,I]:=λb z=>Qn _ z
 have setk:∀{s s':Shared} {ks:List aB},Tps h0 s.heap->Moved [I] (λa b=>b=a) s s'->s.heap.IsListIter I l 0\/True->SetK prog w B s.heap S ks->(∀o,s.heap.get? I=some o->o.cls≠.type "tuple")->SetK prog w B s'.heap S ks:=λ{s s' ks} tp mv _ q ni=>by
  obtain⟨es,ep,t,ks',h1,h2,h3⟩:=q;exact⟨es,ep,t,ks',mv.heap S _ (by simpa using nSI) h1,Paired.mapT h2 λe k ⟨b,e1,e2,e3⟩=>⟨b,e1,Tm.cw e2 λc o hc ht=>mv.heap c o (λz=>by simp at z;subst z;exact ni o hc ht) hc,e3⟩,h3⟩
 have notI:∀{s:Shared} {i:Nat},s.heap.IsListIter I l i->∀o,s.heap.get? I=some o->o.cls≠.type "tuple" := λ⟨o',h1,h2,_⟩ o e z=>by
  rw[h1]at e;cases e;rw[h2]at z;exact absurd (Value.type.inj z) (by decide)
 have tps:∀{s s':Shared},Tps h0 s.heap->Moved [S,I] (λa b=>b=a) s s'->Tps h0 s'.heap:=λtp mv b o e ht=>mv.heap b o (λz=>by rw[new b z]at e;cases e) (tp b o e ht);intro m
 induction m with
 | zero =>
  intro i s ks em hi st tp q mm fin;obtain rfl:i=its.size:=by omega
  refine XF F.entry_set_update_loop ?_;rw[Xs Za _];show wpAny _ A.in1 (pyNext (.ref I) >>= _) _ _ s;exact Qa (W.done s _ _ st λs1 mv=>Qf (fin s1 ks (mv.mono more) (setk tp mv (.inr trivial) q (notI st.1)) mm))
 | succ m ih =>
 intro i s ks em hi st tp q mm fin;have lt:i<its.size:=by omega
 refine XF F.entry_set_update_loop ?_;rw[Xs Za _];show wpAny _ A.in1 (pyNext (.ref I) >>= _) _ _ s;refine Qa (W.item i s _ _ lt st λv s1 hP st1 mv=>?_);obtain⟨b,rfl,hb,tx,hB⟩:=hg i v hP;have q1:=setk tp mv (.inr trivial) q (notI st.1);have tp1:=tps tp (mv.mono more);have hb1:TK.IsT (ax prog w) s1.heap (kf i) b:=Tm.cw hb tp1;show wpAny _ A.in1 (holding [Value.ref b] (setAdd S (.ref b)) >>= _) _ _ s1;refine Qa (QZ ?_);unfold setAdd;refine QZ (Qa ((bq prog w).pyHash (k:=kf i) (show A.units+1+1<cLine by omega) hb1 ?_));have kn:ks.Nodup:=let ⟨_,_,_,_,_,_,_,n,_⟩:=q;n;refine A2 (s:={ s1 with toks:=s1.toks+(bq prog w).draws (kf i) }) (show A.units+1+1<cLine by omega) q1 hb1 tx hB (few ks kn λx hx=>by obtain⟨j,hj,e⟩:=(mm x).mp hx;exact⟨j,by omega,e⟩) λh2 _ ks2 sb q2 _ m2=>?_
 have mv2:Moved [S,I] (λa b=>b=a) s { s1 with heap:=h2,toks:=s1.toks+(bq prog w).draws (kf i) }:=(mv.mono more).then_heap (QQ _ _) λb o z e=>by
  rw[sb.2 b (λy:b=S=>z (by rw[y];exact Xp))];exact e
 refine Qf ⟨plainId_quiet Za _,ih (i+1) _ ks2 (by omega) lt (W.frame _ s1 _ _ st1 (QQ _ _) λb z o e=>?_) (tps tp mv2) q2 (λx=>?_) λs3 ks3 mv3 q3 m3=>fin s3 ks3 (Moved.trans W.gtrans mv2 mv3) q3 m3⟩
 ·rw[sb.2 b (λy:b=S=>nS (by rw[<-y];exact z))];exact e
 rw[m2,mm]
 constructor
 ·rintro(⟨j,hj,e⟩|e)
  ·exact⟨j,by omega,e⟩
  exact⟨i,by omega,e.symm⟩
 rintro⟨j,hj,e⟩;rcases Nat.lt_succ_iff_lt_or_eq.mp hj with z|z
 ·exact .inl ⟨j,z,e⟩
 subst z;exact .inr e.symm
theorem call_set {l:Addr} {its:Array Value} {kf:Nat->aB} {Q:B0} (hh:A.handled=none) (hu:A.units+8<cLine) (hl:s.heap.IsList l its)
  (hg:∀i v,its[i]?=some v->∃b,v=.ref b/\TK.IsT (ax prog w) s.heap (kf i) b/\(kf i).all byV2=false/\B b) (few:∀us:List aB,us.Nodup->(∀x∈us,∃j,j<its.size/\kf j=x)->us.length<76)
  (h:∀(h1:Heap) (tk:Nat) (ks:List aB),SetK prog w B h1 s.heap.objs.size ks->(∀x,x∈ks↔∃j,j<its.size/\kf j=x)->(∀b o,s.heap.get? b=some o->h1.get? b=some o)->Q (.ref s.heap.objs.size) { s with heap:=h1,toks:=tk }) :
  wpAny (model prog w) A (call (.type "set") [.ref l]) Q E s:=by
 refine LG.call_set_gen (G:=λh S=>∃ks,SetK prog w B h S ks/\∀x,x∈ks↔∃j,j<its.size/\kf j=x) hh hl (λI S s0 R kp hS hI nI nS st g fin=>?_) λh1 tk ⟨ks,q,m⟩ kp=>h h1 tk ks q m kp
 have nw:∀b∈[S,I],s.heap.get? b=none:=λb hb=>by
  simp only[Qj,QA,Xj]at hb;rcases hb with rfl|rfl
  ·exact Heap.get?_none_of_le hS
  exact Heap.get?_none_of_le hI
 exact set_loop (A:=A.in1.in1) (h0:=s.heap) (kf:=kf) (by simp[hh]) (show A.units+1+1+3<cLine by omega) nI nS nw hg few (its.size-0) 0 s0 [] rfl (QR _) st (λb o e _=>kp b o e) (SetK.new g) (λx=>by simp) λs' ks' mv q m=>fin s' mv ⟨ks',q,m⟩
theorem SetK.raw {h:Heap} {a:Addr} {ks:List aB} (x:SetK prog w B h a ks):∃es ep t ks',h.get? a=some (wu es ep t)/\Paired (El prog w B h) es.toList ks'/\ks'.Perm ks/\ks.Nodup/\es.size=ks.length/\es.size<scanBound/\t.fits es.size=true/\Led w t es.size:=by
 obtain⟨es,ep,t,ks',h1,h2,h3,h4,h5,h6,h7⟩:=x;have t127:t.mask<=127:=by rcases h5.msk with e|e|e <;> omega
 refine⟨es,ep,t,ks',h1,h2,h3,h4,by rw[<-Qi,Xr h2,h3.length_eq],by unfold scanBound;omega,?_,h7⟩;have:=h5.fits (by rw[Qb,Qi];omega);rwa [Qb,Qi]at this
theorem els_refs {h:Heap}:∀{od:List (Int × Value)} {ks:List aB},Paired (El prog w B h) od ks->∃bs:B3,od.map (·.2)=bs.map Value.ref/\Paired (λb k=>TK.IsT (ax prog w) h k b/\B b) bs ks
 | _,_,.nil=>⟨[],rfl,.nil⟩
 | _,_,.cons ⟨b,e1,e2,e3⟩ t=>by
  obtain⟨bs,h1,h2⟩:=els_refs t;exact⟨b::bs,by rw[Qw,Qw,e1,h1],.cons ⟨e2,e3.2⟩ h2⟩
end
end Ht
namespace L2
open PySem PySem.Spec PyProof.Rows PySem.Calls
theorem Inv.drawn {X:Cx} {pins:B1} {U:List (Option V)} {H:Hp} {s:Shared} (I:Inv X pins U H s) (d:Drawn):Inv X pins U H { s with drawn:=d }:=⟨I.ok,I.os,I.bare,I.base,I.loc,I.cell,I.free,I.freeC,I.pin,I.hok,I.len⟩
section
variable {X:Cx} {a:Expr} {ta:TA} {p p1 pos pos1:Pos}
def qh (K:PySem.W.Frag) (H:Hp) (vs:List V) (ks:List aB):Prop:=∃(l:Addr) (bs:B3),vs=[.ref l]/\SqL K H l (bs.map V.ref)/\KsA H bs ks/\(∀k∈ks,k.all Ht.byV2=false)/\∀us:List aB,us.Nodup->(∀x∈us,x∈ks)->us.length<64
def jG (K:PySem.W.Frag) (ta:TA):TE:=λU H Q=>ta U H λvs H1=>∃(ks:List aB) (b:Bool),qh K H1 vs ks/\v_ b ks/\∀(p:Addr) (bs':B3) (us:List aB),H1 p=none->KsA H1 bs' us->us.Nodup->(∀x,x∈us↔x∈ks)->us.Pairwise leF->Q (.ref p) (upd H1 p (.lst (bs'.map V.ref)))
theorem ug {pins:B1} {U:St} {H:Hp} {s:Shared} {us:List Value} {vs:List V} {ks:List aB} {Q:B0} (hc:X.calm=true) (hu:X.A.units+8<cLine) (I:Inv X pins U H s) (r:aQ vs us) (h:qh X.K H vs ks)
  (q:∀(h1:Heap) (tk:Nat) (ks':List aB),Ht.SetK X.prog X.w (λb=>bS H (du H b) b) h1 s.heap.objs.size ks'->(∀x,x∈ks'↔x∈ks)->(∀b o,s.heap.get? b=some o->h1.get? b=some o)->Q (.ref s.heap.objs.size) { s with heap:=h1,toks:=tk }) :
  wpAny (model X.prog X.w) X.A (call (.type "set") us) Q X.xe s:=by
 obtain⟨l,bs,rfl,hl,ka,tx,few⟩:=h;obtain⟨u1,rfl,ru1⟩:=cZ r;cases ru1;obtain⟨its,rv,pl,_⟩:=I.list hl;have ei:=fN rv;have bl:=Xr ka;have zz:its.toArray.size=ks.length:=by rw[Ql,ei,Qb,bl]
 obtain⟨ek,tk⟩:=ka.tk
 have kfm:∀x,(∃j,j<its.toArray.size/\ks.getD j []=x)↔x∈ks:=λx=>by
  rw[zz]
  constructor
  ·rintro⟨j,hj,rfl⟩;rw[Qx,Qe hj];exact Q9 hj
  intro hx;obtain⟨j,hj,e⟩:=Xf hx;exact⟨j,hj,by rw[Qx,Qe hj];exact e⟩
 refine Ht.call_set (B:=λb=>bS H (du H b) b) (its:=its.toArray) (kf:=λi=>ks.getD i []) (I.ok.hd hc) hu pl.isList (λi v hv=>?_) (λus nd h=>Nat.lt_trans (few us nd λx hx=>(kfm x).mp (h x hx)) (by decide)) λh1 tk ks' q1 m kp=>q h1 tk ks' q1 (λx=>(m x).trans (kfm x)) kp;have hv:its[i]?=some v:=by simpa using hv
 rw[ei,Qp]at hv;obtain⟨b,hb,rfl⟩:=Q8.mp hv;have hi:=(Qd.mp hb).1;have ej:ks[i]?=some (du H b):=by rw[ek,Qp,hb];rfl
 have eg:ks.getD i []=du H b:=by rw[Qx,ej];rfl
 have tb:=tk b (Qk hb);rw[eg];exact⟨b,rfl,dC I.hok tb,tx _ (Qk ej),tb⟩
theorem mP (hc:X.calm=true) (hu:X.A.units+8<cLine) (hg:Gl X "sorted") (hm:X.mg "sorted" = none) (hg1:Gl X "set") (hm1:X.mg "set" = none) (ha:PA X [a] ta) (hs:starEach [a] X.env=[(false,eval a X.env)]:=by rfl)
  (he:starEach [.Call (.Name "set" p1) [a] [] pos1] X.env=[(false,eval (.Call (.Name "set" p1) [a] [] pos1) X.env)]:=by rfl):PE X (.Call (.Name "sorted" p) [.Call (.Name "set" p1) [a] [] pos1] [] pos) (jG X.K ta):=by
 intro pins s U H Q I h;refine wpAny_Call_Name_kw (cL I hg hm PyProof.Rows.boot_sorted ?_);refine PyProof.Rows.callWith_builtin1 ?_ he rfl;rw[he];show wpAny _ _ (spliced ((false,eval (.Call (.Name "set" p1) [a] [] pos1) X.env)::backTo pos [])) _ _ s;refine XI ?_;refine Call_ (cL I hg1 hm1 PyProof.Rows.boot_set (Xd (thn (ha pos1 pins s U H _ I h) λus s1 z=>?_) hs rfl));obtain⟨vs,H1,I1,r1,ks,b,so,sp,q⟩:=z;have fw:∀us:List aB,us.Nodup->(∀x∈us,x∈ks)->us.length<64:=let ⟨_,_,_,_,_,_,few⟩:=so;few;refine ug hc hu I1 r1 so λh1 tk ks' sk mm kp=>Calls.spliced_nil ?_;obtain⟨es,ep,t,ks2,g1,g2,g3,g4,g5,g6,g7,g8⟩:=sk.raw;refine Calls.call_function_entry kind_sorted plain_sorted entry_sorted (args_sorted1 _) ?_;unfold Builtin.«sorted»;refine Qa (m:=checkCount "sorted" 1 1 _) (Qf ?_);refine Qa (LG.collect_set (A:=X.A.in1) (s:={ s1 with heap:=h1,toks:=tk }) (show X.A.in1.handled=none by simp[I1.ok.hd hc]) g1 rfl rfl g6 g7 g8 λh2 tk2 d od po kp2 z2=>?_);obtain⟨ks3,e3,p3⟩:=Ht.paired_perm po g2;obtain⟨bs,ev,pb⟩:=Ht.els_refs e3;have lb:bs.length=ks'.length:=by rw[Xr pb,p3.length_eq,g3.length_eq]
 have l64:ks'.length<64:=fw ks' g4 λx hx=>(mm x).mp hx;rw[ev];refine Qa (wpAny_newList ?_ (by rw[Qb,XZ];omega))
 have kb:KsA H1 bs (bs.map (du H1))/\ks3=bs.map (du H1):=by
  have I3:=I1.kept (t':=tk) kp;clear ev lb e3 p3
  induction pb with
  | nil=>exact⟨.nil,rfl⟩
  | @cons b k bs ks r _ ih =>
  obtain⟨i1,i2⟩:=ih;refine⟨.cons r.2 i1,?_⟩;have:=(dC I3.hok r.2).inj r.1;rw[Qw,this,<-i2]
 obtain⟨kb,ek3⟩:=kb;have mem:∀c∈bs,du H1 c∈ks:=λc hc=>(mm _).mp (g3.mem_iff.mp (p3.mem_iff.mp (by rw[ek3];exact Qm.mpr ⟨c,hc,rfl⟩)));have tkb:=kb.tk.2;have I3:=I1.kept (t':=tk) kp;have hoL:(h2.push (seqObj "list" (bs.map Value.ref).toArray 0)).get? h2.objs.size=some (seqObj "list" (bs.map Value.ref).toArray 0):=Qt _ rfl
 refine Qa (QZ (Q4 (s:={ s1 with heap:=h2.push (seqObj "list" (bs.map Value.ref).toArray 0),toks:=tk2,drawn:=d }) slot_list_sort ⟨_,hoL,rfl⟩ entry_list_sort
  (Tm.iX (up:=λA=>A.units<cLine) hoL (Tm.og (b:=b) hoL (λz=>absurd (Value.type.inj z) (by decide)) (λc hc=>Tm.cw (dC I3.hok (tkb c hc)) λb o e _=>Qc _ (kp2 _ _ e)) ⟨λx hx y hy=>sp.1 _ (mem x hx) _ (mem y hy),λx hx=>sp.2 _ (mem x hx)⟩) (show X.A.units+1+1<cLine by omega) (by rw[Qb,lb];exact l64) λout p1 p2=>⟨_,rfl,?_⟩) (args_list_sort _)))
 obtain⟨m,at'⟩:=Tm.fG (vs:=bs.map Value.ref) (out:=out) hoL;obtain⟨bs',pm,eo⟩:=jO p1;rw[eo,Xv]at p2
 have so':(bs'.map (du H1)).Pairwise leF:=by
  rw[Xv];refine p2.imp_of_mem λ{x y} hx hy hq=>?_;have hq:Tm.lb (((Tm.nE bs (du H1)).keyOf (.ref y)).getD []) (((Tm.nE bs (du H1)).keyOf (.ref x)).getD [])=false:=hq;rw[Tm.gq _ (pm.mem_iff.mp hx),Tm.gq _ (pm.mem_iff.mp hy)]at hq;exact hq
 have pmk:(bs'.map (du H1)).Perm ks':=((pm.map _).trans (by rw[<-ek3];exact p3)).trans g3;have I4:=(I3.kept (t':=tk2) kp2).drawn d
 exact Qf ⟨_,rfl,.ref h2.objs.size,_,I4.laid (o:=.lst (bs'.map V.ref)) (t':=tk2) (λb o e=>Tm.eV (QB (Qq e)) (Qc _ e)) (Qg _) ⟨by rw[Qb,pm.length_eq,lb,XZ];omega,out.toList,m,by rw[eo];exact gL _,by rw[Array.toArray_toList];exact at'⟩,rfl,
  q _ bs' _ (I4.hok.fresh (Qg _)) (pN λb hb=>tkb b (pm.mem_iff.mp hb)) (pmk.nodup_iff.mpr g4) (λx=>pmk.mem_iff.trans (mm x)) so'⟩
end
end L2
set_option maxHeartbeats 4000000
namespace L2
open PySem PySem.Spec PyProof.Rows
variable {pins:B1}
theorem Inv.turnedL {X:Cx} {U:St} {H:Hp} {s:Shared} {h':Heap} {t':Nat} {T:Addr} {o:HO} {ch:B3} (I:Inv X pins U H s) (k:∀b o,b∉ch->s.heap.get? b=some o->h'.get? b=some o)
  (f:∀b∈ch,fi X pins H b) (hT:s.heap.objs.size<=T) (new:be X.prog X.w (upd H T o) h' T o):Inv X pins U (upd H T o) { s with heap:=h',toks:=t' }:=by
 have hn:H T=none:=I.hok.fresh hT;have nT:∀b u,s.heap.get? b=some u->b≠T:=λb u q=>QB (QN (Qq q) hT);have n:∀b u,H b=some u->b∉ch:=λb u q z=>by rw[(f b z).1]at q;cases q
 refine I.step (g':=s.gens) (d':=s.drawn) (ch:=ch) (λb hb=>?_) (λb u _ _ hc q _=>k b u hc q) (λb u _ _ hc q _=>⟨u.slots,k b u hc q⟩) (λb u _ q n=>by rw[ah (nT b u q)];exact n)
  (λb u hc q=>⟨u,k b u hc q⟩) (λb xs q=>by rw[ah (ao q hn)];exact q) (λb u xs q=>by rw[ah (ao q hn)];exact q) (λb ps q=>⟨#[],by rw[ah (ao q hn),q];simp⟩) (λm hm=>?_) (λb u q=>?_) I.bare
 ·obtain⟨_,a2,_,a4,a5,a6⟩:=f b hb;exact⟨a4,a2,a5,a6⟩
 ·obtain⟨ob,es,ep,ho,r⟩:=hm;exact⟨ob,es,ep,k _ ob (λz=>(f _ z).2.1 rfl) ho,r⟩
 by_cases hb:b=T
 ·subst hb;rw[af]at q;cases q;exact new
 rw[ah hb]at q;refine(I.hok b u q).stay (λc v hc z=>k c v ?_ z) (λc z=>by rw[ah (ao z hn)];exact z) λc xs z=>by rw[ah (ao z hn)];exact z
 rcases hc with z|z
 ·rw[z];exact n b u q
 exact n c _ z
theorem Inv.turnedE {X:Cx} {U:St} {H:Hp} {s:Shared} {h':Heap} {t':Nat} {ch:B3} (I:Inv X pins U H s) (k:∀b o,b∉ch->s.heap.get? b=some o->h'.get? b=some o)
  (f:∀b∈ch,fi X pins H b):Inv X pins U H { s with heap:=h',toks:=t' }:=by
 have n:∀b u,H b=some u->b∉ch:=λb u q z=>by rw[(f b z).1]at q;cases q
 refine I.step (g':=s.gens) (d':=s.drawn) (ch:=ch) (λb hb=>?_) (λb u _ _ hc q _=>k b u hc q) (λb u _ _ hc q _=>⟨u.slots,k b u hc q⟩) (λb u _ q n=>n)
  (λb u hc q=>⟨u,k b u hc q⟩) (λb xs q=>q) (λb u xs q=>q) (λb ps q=>⟨#[],by rw[q];simp⟩) (λm hm=>?_) (λb u q=>?_) I.bare
 ·obtain⟨_,a2,_,a4,a5,a6⟩:=f b hb;exact⟨a4,a2,a5,a6⟩
 ·obtain⟨ob,es,ep,ho,r⟩:=hm;exact⟨ob,es,ep,k _ ob (λz=>(f _ z).2.1 rfl) ho,r⟩
 refine(I.hok b u q).stay (λc v hc z=>k c v ?_ z) (λc z=>z) λc xs z=>z;rcases hc with z|z
 ·rw[z];exact n b u q
 exact n c _ z
section
variable {X:Cx} {elts:List Expr} {k:Nat} {tpos:Pos}
end
section
variable {X:Cx}
end
end L2
namespace LZg
open PySem LZ
section
variable {prog:Program} {w:World} {A:Around} {E:B0} {s:Shared}
variable {Q:B0} {x f0 v u a:Value} {its xs ys:Array Value} {i:Nat} {c l b z i1 i2 m:Addr}
theorem pD {t:Addr} (hc:s.heap.IsTupleIter c t i) (ht:s.heap.IsTuple t its) (hx:its[i]?=some x)
  (hQ:∀h',h'.IsTupleIter c t (i+1)->Heap.SameBut c s.heap h'->Q x { s with heap:=h' }):wpAny (model prog w) A (Builtin.SmallTypes.nextOf (.ref c)) Q E s:=by
 obtain⟨o,ho,h1,h2⟩:=id hc;obtain⟨ot,hot,_,nt,hdt⟩:=ht;unfold Builtin.SmallTypes.nextOf;refine Qa (Xh (name:=Str.ofString "__next__") hc.typeIs F.slot_tuple_iterator_next (Q4 F.slot_tuple_iterator_next hc.typeIs F.entry_tuple_iterator_next ?_ (F.args_tuple_iterator_next_1 _)));show wpAny _ _ (field (.ref c) 0 >>= _) _ _ s;refine Qa (Xy ho h2 (x:=.ref t) rfl ?_);rw[Qo (show ¬((Value.ref t==Value.none)=true) from Qr)];show wpAny _ _ (field (.ref c) 1 >>= _) _ _ s;refine Qa (Xy ho h2 (x:=.int i 0) rfl ?_);show wpAny _ _ (seqItems? _ >>= _) _ _ _;refine Qa (XQ hot hdt ?_);simp only[Q7,hx];refine Qa (wpAny_setField ho h2 (by simp) (Qf ⟨x,rfl,Qf (hQ _ ⟨_,Xm _ ho (Obj.isFreed_of_fields (XJ h2 _)),(Obj.cls_mapFields ..).trans h1,?_⟩ (Xa ..))⟩));rw[XJ h2];simp[rawInt]
theorem sG {t:Addr} (hh:A.handled=none) (hc:s.heap.IsTupleIter c t i) (ht:s.heap.IsTuple t its) (hx:its[i]?=none)
  (hE:∀h' e,Heap.ExtBut c s.heap h'->(∃o,h'.get? e=some o/\o.cls=.type "StopIteration")->E (.ref e) { s with heap:=h' }):wpAny (model prog w) A (Builtin.SmallTypes.nextOf (.ref c)) Q E s:=by
 obtain⟨o,ho,h1,h2⟩:=id hc;obtain⟨ot,hot,_,nt,hdt⟩:=ht;unfold Builtin.SmallTypes.nextOf;refine Qa (Xh (name:=Str.ofString "__next__") hc.typeIs F.slot_tuple_iterator_next (Q4 F.slot_tuple_iterator_next hc.typeIs F.entry_tuple_iterator_next ?_ (F.args_tuple_iterator_next_1 _)));show wpAny _ _ (field (.ref c) 0 >>= _) _ _ s;refine Qa (Xy ho h2 (x:=.ref t) rfl ?_);rw[Qo (show ¬((Value.ref t==Value.none)=true) from Qr)];show wpAny _ _ (field (.ref c) 1 >>= _) _ _ s;refine Qa (Xy ho h2 (x:=.int i 0) rfl ?_);show wpAny _ _ (seqItems? _ >>= _) _ _ _;refine Qa (XQ hot hdt ?_);simp only[Q7,hx];refine Qa (wpAny_rule (Qa (wpAny_setField ho h2 (by simp) ?_)));refine Qa (m:=PySem.newExc (.type "StopIteration") []) ?_;simp only[PySem.newExc,newTuple];refine Qa (Xi ?_ (by size_fits));refine Qa (m:=firstArgMember _ _) (wpAny_of_eq (a:=Value.none) rfl ?_);refine Xi ?_ (by size_fits);simp only[raiseNew];refine Qa (wpAny_handled ?_);rw[show A.in1.handled=none from hh];exact Qa (Qf (wpAny_throw (hE _ _ (((Xa ..).extBut.push _).push _) ⟨_,Qt _ rfl,rfl⟩)))
def SqOb:Bool->Heap->Addr->Array Value->Prop
 | true,h,l,xs=>h.IsTuple l xs
 | false,h,l,xs=>h.IsList l xs
def SqIt:Bool->Heap->Addr->Addr->Nat->Prop
 | true,h,c,l,i=>h.IsTupleIter c l i
 | false,h,c,l,i=>h.IsListIter c l i
def vH (t:Bool):String:=if t then "tuple_iterator" else "list_iterator"
variable {h h':Heap}
theorem SqIt.of {t:Bool} (g:h.get? c=some { cls:=.type (vH t),data:=.fields #[.ref l,.int i 0] }):SqIt t h c l i:=by
 cases t <;> exact⟨_,g,rfl,rfl⟩
theorem SqIt.raw {t:Bool} (x:SqIt t h c l i):∃o,h.get? c=some o/\o.data=.fields #[.ref l,.int i 0]:=by
 cases t <;> (obtain⟨o,h1,_,h3⟩:=x;exact⟨o,h1,h3⟩)
theorem SqIt.at {t:Bool} (x:SqIt t h c l i) (k:∀o,h.get? c=some o->h'.get? c=some o):SqIt t h' c l i:=by
 cases t <;> (obtain⟨o,h1,r⟩:=x;exact⟨o,k _ h1,r⟩)
theorem SqIt.extBut {t:Bool} (x:SqIt t h c l i) (hs:Heap.ExtBut b h h') (n:c≠b):SqIt t h' c l i:=x.at λo e=>hs c o n e
theorem SqOb.extBut {t:Bool} (x:SqOb t h l xs) (hs:Heap.ExtBut b h h') (n:l≠b):SqOb t h' l xs:=by
 cases t <;> (obtain⟨o,h1,r⟩:=x;exact⟨o,hs l o n h1,r⟩)
theorem SqOb.push {t:Bool} (x:SqOb t h l xs) (o:Obj):SqOb t (h.push o) l xs:=by
 cases t <;> (obtain⟨o,h1,r⟩:=x;exact⟨o,Qc _ h1,r⟩)
theorem SqOb.lt {t:Bool} (x:SqOb t h l xs):l<h.objs.size:=by
 cases t <;> (obtain⟨o,h1,r⟩:=x;exact Qq h1)
theorem vF {t:Bool} (x:SqOb t s.heap l xs) (h:Q (.ref s.heap.objs.size) { s with heap:=s.heap.push { cls:=.type (vH t),data:=.fields #[.ref l,.int 0 0] } }):wpAny (model prog w) A (pyIter (.ref l)) Q E s:=by
 cases t with
 | true=>exact wpAny_pyIter_tuple x h
 | false=>exact wpAny_pyIter_list x h
theorem qW {t:Bool} (hc:SqIt t s.heap c l i) (ht:SqOb t s.heap l its) (hx:its[i]?=some x)
  (hQ:∀h',SqIt t h' c l (i+1)->Heap.SameBut c s.heap h'->Q x { s with heap:=h' }):wpAny (model prog w) A (Builtin.SmallTypes.nextOf (.ref c)) Q E s:=by
 cases t with
 | true=>exact pD hc ht hx hQ
 | false=>exact wpAny_nextOf_list_item hc ht hx hQ
theorem pq {t:Bool} (hh:A.handled=none) (hc:SqIt t s.heap c l i) (ht:SqOb t s.heap l its) (hx:its[i]?=none)
  (hE:∀h' e,Heap.ExtBut c s.heap h'->(∃o,h'.get? e=some o/\o.cls=.type "StopIteration")->E (.ref e) { s with heap:=h' }):wpAny (model prog w) A (Builtin.SmallTypes.nextOf (.ref c)) Q E s:=by
 cases t with
 | true=>exact sG hh hc ht hx hE
 | false=>exact wpAny_nextOf_list_end hh hc ht hx hE
variable {f1 t1 t2:Bool}
theorem next_end {TI TO:Addr} {k:Nat} {a b:Value} {Q:Option Value->Shared->Prop} (hh:A.handled=none) (D:Apart5 z TI TO i1 i2 l)
  (hz:IsZ s.heap z TI TO f0 f1) (hf:(f0=.none/\f1=false/\∃a b,IsPair s.heap TO a b)\/∃(T:Addr) (oT:Obj),f0=rawInt (T:Nat)/\s.heap.get? T=some oT) (hTI:IsPair s.heap TI (.ref i1) (.ref i2)) (h1:SqIt t1 s.heap i1 l k) (hl:SqOb t1 s.heap l xs) (hv:xs[k]?=none)
  (hQ:∀h',(∀c o,c≠z->c≠i1->s.heap.get? c=some o->h'.get? c=some o)->Q none { s with heap:=h' }):wpAny (model prog w) A (pyNext (.ref z)) Q E s:=by
 have hTy:s.TypeIs (.ref z) "zip" := ⟨_,hz,rfl⟩;unfold pyNext
 refine Qa (wpAny_attempt (Xh (name:=Str.ofString "__next__") hTy F.slot_zip_next
  (Q4 F.slot_zip_next hTy F.entry_zip_next ?_ (F.args_zip_next_1 _))))
 show wpAny _ _ (field (.ref z) 2 >>= _) _ _ _;refine Qa (Xy hz rfl (x:=.bool false) rfl ?_);show wpAny _ _ (field (.ref z) 3 >>= _) _ _ _;refine Qa (Xy hz rfl (x:=.ref TI) rfl ?_);refine Qa (XQ hTI rfl ?_);show wpAny _ _ (Builtin.SmallTypes.ownedTupleIsFree (.ref z) >>= _) _ _ _;refine Qa ?_;unfold Builtin.SmallTypes.ownedTupleIsFree;refine Qa (Xy hz rfl (x:=f0) rfl ?_)
 have fin:∀h' e,(∀c o,c≠z->c≠i1->s.heap.get? c=some o->h'.get? c=some o)->(∃o,h'.get? e=some o/\o.cls=.type "StopIteration") ->
   wpAny (model prog w) A (do if <-isInstance (.ref e) (.type "StopIteration") then pure none else throw (.ref e)) Q E { s with heap:=h' }:=λh' e hk ⟨o,ho,hc⟩ =>
  Qa (wpAny_isInstance (T := "StopIteration") (b:=true) ⟨o,ho,hc⟩ isSubtype_stop (Qf (hQ _ hk)))
 rcases hf with⟨e1,e2,a,b,hTO⟩|⟨T,oT,e1,hT⟩
 ·subst e1 e2;refine Qf ?_;simp only[if_true];refine Qa (wpAny_rule ?_);refine Qa (Xy hz rfl (x:=.ref TO) rfl ?_);refine Qa (X0 hz (by simp) λh₁ hz1 hs₁=>?_)
  replace hz1:IsZ h₁ z TI TO .ellipsis false:=hz1
  refine Qa ?_;simp only[List.zipIdx_cons,List.zipIdx_nil,List.forIn_cons,List.forIn_nil];refine Qa (Qa (wpAny_onRaise ?_));show wpAny _ _ (Builtin.SmallTypes.nextOf (.ref i1) >>= _) _ _ _;refine Qa (pq hh (h1.extBut hs₁.extBut D.i1z) (hl.extBut hs₁.extBut D.lz) hv λh₂ e hs₂ he=>?_);obtain⟨oe,hoe,hce⟩:=he;have hz₂:IsZ h₂ z TI TO .ellipsis false:=hs₂ _ _ D.i1z.symm hz1;have hez:e≠z:=λx=>by subst x;rw[hz₂]at hoe;cases hoe;simp at hce
  refine X0 hz₂ (by simp) λh₃ _ hs₃=>?_;exact fin h₃ e (λc o c1 c3 x=>hs₃.extBut _ _ c1 (hs₂ _ _ c3 (hs₁.extBut _ _ c1 x))) ⟨oe,hs₃.extBut _ _ hez hoe,hce⟩
 subst e1;show wpAny _ _ (loadIfAlive ((T:Int).toNat) >>= _) _ _ _;rw[Q7];refine Qa (yz hT ?_);simp only[Option.isNone_some,QG,XD];refine Qa (Xy hz rfl (x:=.bool f1) rfl ?_)
 cases f1 with
 | false =>
  simp only[show (Value.bool false != Value.bool true)=true from rfl,if_true];refine Qa (X0 hz (by simp) λh₁ hz1 hs₁=>Qf ?_)
  replace hz1:IsZ h₁ z TI TO (rawInt T) true:=hz1
  simp only[QG,XD,List.forIn_toArray,List.forIn_cons,List.forIn_nil];refine Qa (Qa (Qa (QZ ?_)));show wpAny _ _ (Builtin.SmallTypes.nextOf (.ref i1) >>= _) _ _ _;refine Qa (pq hh (h1.extBut hs₁.extBut D.i1z) (hl.extBut hs₁.extBut D.lz) hv λh₂ e hs₂ he=>?_);exact fin h₂ e (λc o c1 c3 x=>hs₂ _ _ c3 (hs₁.extBut _ _ c1 x)) he
 | true =>
 simp only[show (Value.bool true != Value.bool true)=false from rfl,QG,XD];refine Qf ?_;simp only[QG,XD,List.forIn_toArray,List.forIn_cons,List.forIn_nil];refine Qa (Qa (Qa (QZ ?_)));show wpAny _ _ (Builtin.SmallTypes.nextOf (.ref i1) >>= _) _ _ _;refine Qa (pq hh h1 hl hv λh₂ e hs₂ he=>?_);exact fin h₂ e (λc o c1 c3 x=>hs₂ _ _ c3 x) he
theorem next_first {TI TO:Addr} {k:Nat} {b:Value} {Q:Option Value->Shared->Prop} (D:Apart5 z TI TO i1 i2 l) (mz:m≠z) (mTO:m≠TO) (mi1:m≠i1) (mi2:m≠i2)
  (hz:IsZ s.heap z TI TO .none false) (hTI:IsPair s.heap TI (.ref i1) (.ref i2)) (hTO:IsPair s.heap TO a b) (h1:SqIt t1 s.heap i1 l k) (h2:SqIt t2 s.heap i2 m k) (hl:SqOb t1 s.heap l xs) (hm:SqOb t2 s.heap m ys) (hv:xs[k]?=some v) (hc:ys[k]?=some u)
  (hQ:∀h',IsZ h' z TI TO (rawInt s.heap.objs.size) false->(∃a b,IsPair h' TO a b)->SqIt t1 h' i1 l (k+1)->SqIt t2 h' i2 m (k+1)->IsPair h' s.heap.objs.size v u->h'.objs.size=s.heap.objs.size+1 ->
   (∀c o,c≠z->c≠TO->c≠i1->c≠i2->s.heap.get? c=some o->h'.get? c=some o)->Q (some (.ref s.heap.objs.size)) { s with heap:=h' }) :
  wpAny (model prog w) A (pyNext (.ref z)) Q E s:=by
 have hT:s.TypeIs (.ref z) "zip" := ⟨_,hz,rfl⟩;unfold pyNext
 refine Qa (wpAny_attempt (Xh (name:=Str.ofString "__next__") hT F.slot_zip_next
  (Q4 F.slot_zip_next hT F.entry_zip_next ?_ (F.args_zip_next_1 _))))
 show wpAny _ _ (field (.ref z) 2 >>= _) _ _ _;refine Qa (Xy hz rfl (x:=.bool false) rfl ?_);show wpAny _ _ (field (.ref z) 3 >>= _) _ _ _;refine Qa (Xy hz rfl (x:=.ref TI) rfl ?_);refine Qa (XQ hTI rfl ?_);show wpAny _ _ (Builtin.SmallTypes.ownedTupleIsFree (.ref z) >>= _) _ _ _;refine Qa ?_;unfold Builtin.SmallTypes.ownedTupleIsFree;refine Qa (Xy hz rfl (x:=.none) rfl (Qf ?_));simp only[if_true];refine Qa (wpAny_rule ?_);refine Qa (Xy hz rfl (x:=.ref TO) rfl ?_);refine Qa (X0 hz (by simp) λh₁ hz1 hs₁=>?_)
 replace hz1:IsZ h₁ z TI TO .ellipsis false:=hz1
 refine Qa ?_;simp only[List.zipIdx_cons,List.zipIdx_nil,List.forIn_cons,List.forIn_nil];refine Qa (Qa (wpAny_onRaise ?_));show wpAny _ _ (Builtin.SmallTypes.nextOf (.ref i1) >>= _) _ _ _;refine Qa (qW (h1.extBut hs₁.extBut D.i1z) (hl.extBut hs₁.extBut D.lz) hv λh₂ h12 hs₂=>Qf ?_);have hTO2:IsPair h₂ TO a b:=hs₂.extBut _ _ D.TOi1 (hs₁.extBut _ _ D.TOz hTO);refine Qa (XQ hTO2 rfl ?_);refine Qa (wpAny_updateSeq_pair hTO2 λh₃ hTO3 hs₃=>?_)
 replace hTO3:IsPair h₃ TO v b:=hTO3
 refine Qa (wpAny_letGo (Qf ?_));refine Qa (Qa (wpAny_onRaise ?_));show wpAny _ _ (Builtin.SmallTypes.nextOf (.ref i2) >>= _) _ _ _;have h23:SqIt t2 h₃ i2 m k:=((h2.extBut hs₁.extBut D.i2z).extBut hs₂.extBut D.i12.symm).extBut hs₃.extBut D.TOi2.symm;refine Qa (qW h23 (((hm.extBut hs₁.extBut mz).extBut hs₂.extBut mi1).extBut hs₃.extBut mTO) hc λh₄ h24 hs4=>Qf ?_);have hTO4:IsPair h₄ TO v b:=hs4.extBut _ _ D.TOi2 hTO3;refine Qa (XQ hTO4 rfl ?_);refine Qa (wpAny_updateSeq_pair hTO4 λh₅ hTO5 hs₅=>?_)
 replace hTO5:IsPair h₅ TO v u:=hTO5
 refine Qa (wpAny_letGo (Qf (Qf ?_)));refine Qa (XQ hTO5 rfl ?_);refine Qa (wpAny_newTuple ?_);have hsz:h₅.objs.size=s.heap.objs.size:=by rw[hs₅.1,hs4.1,hs₃.1,hs₂.1,hs₁.1]
 have hz5:IsZ h₅ z TI TO .ellipsis false:=hs₅.extBut _ _ D.TOz.symm (hs4.extBut _ _ D.i2z.symm (hs₃.extBut _ _ D.TOz.symm (hs₂.extBut _ _ D.i1z.symm hz1)))
 have hk₅:∀c o,c≠z->c≠TO->c≠i1->c≠i2->s.heap.get? c=some o->h₅.get? c=some o:=λc o c1 c2 c3 c4 e =>
  hs₅.extBut _ _ c2 (hs4.extBut _ _ c4 (hs₃.extBut _ _ c2 (hs₂.extBut _ _ c3 (hs₁.extBut _ _ c1 e))))
 have h1₅:SqIt t1 h₅ i1 l (k+1):=((h12.extBut hs₃.extBut D.TOi1.symm).extBut hs4.extBut D.i12).extBut hs₅.extBut D.TOi1.symm;have h25:SqIt t2 h₅ i2 m (k+1):=h24.extBut hs₅.extBut D.TOi2.symm;have hzlt:z<h₅.objs.size:=Qq hz5;show wpAny _ _ (Builtin.SmallTypes.ownedTupleHandOut (.ref z) (.ref h₅.objs.size) >>= _) _ _ _;refine Qa ?_;unfold Builtin.SmallTypes.ownedTupleHandOut;have hz6:IsZ (h₅.push { cls:=.type "tuple", data:=.seq #[v,u] }) z TI TO .ellipsis false:=Qc _ hz5;refine Qa (X0 hz6 (by simp) λh₇ hz7 hs7=>?_)
 replace hz7:IsZ h₇ z TI TO (rawInt h₅.objs.size) false:=hz7
 refine X0 hz7 (by simp) λh₈ hz₈ hs8=>?_
 replace hz₈:IsZ h₈ z TI TO (rawInt h₅.objs.size) false:=hz₈
 have up:∀c o,c≠z->h₅.get? c=some o->h₈.get? c=some o:=λc o c1 e=>hs8.extBut _ _ c1 (hs7.extBut _ _ c1 (Qc _ e));have hT8:IsPair h₈ h₅.objs.size v u:=hs8.extBut _ _ (Nat.ne_of_gt hzlt) (hs7.extBut _ _ (Nat.ne_of_gt hzlt) (Qt _ rfl));have hz8:h₈.objs.size=h₅.objs.size+1:=by rw[hs8.1,hs7.1,Xg]
 rw[hsz]at hz₈ hT8 hz8;refine Qf ⟨_,rfl,Qf ?_⟩;show Q (some (.ref h₅.objs.size)) _;rw[hsz];exact hQ h₈ hz₈ ⟨_,_,up _ _ D.TOz hTO5⟩ (h1₅.at λo e=>up _ o D.i1z e) (h25.at λo e=>up _ o D.i2z e) hT8 hz8 λc o c1 c2 c3 c4 e=>up c o c1 (hk₅ c o c1 c2 c3 c4 e)
abbrev zH1 (t1:Bool) (h:Heap) (l:Addr):Heap:=h.push { cls:=.type (vH t1),data:=.fields #[.ref l,.int 0 0] }
abbrev zH2 (t1 t2:Bool) (h:Heap) (l m:Addr):Heap:=(zH1 t1 h l).push { cls:=.type (vH t2),data:=.fields #[.ref m,.int 0 0] }
abbrev zH3 (t1 t2:Bool) (h:Heap) (l m:Addr):Heap:=(zH2 t1 t2 h l m).push { cls:=.type "tuple", data:=.seq #[.ref h.objs.size,.ref (zH1 t1 h l).objs.size] }
abbrev zH4 (t1 t2:Bool) (h:Heap) (l m:Addr):Heap:=(zH3 t1 t2 h l m).push { cls:=.type "tuple", data:=.seq #[.none,.none] }
abbrev zH5 (t1 t2:Bool) (h:Heap) (l m:Addr):Heap:=(zH4 t1 t2 h l m).push { cls:=.type "zip", data:=.fields #[.none,.bool false,.bool false,.ref (zH2 t1 t2 h l m).objs.size,.ref (zH3 t1 t2 h l m).objs.size] }
theorem sH (t1 t2:Bool) (l m:Addr) (xs ys:Array Value) :
  Meets (Builtin.«zip.__new__» ⟨[.type "zip", .ref l,.ref m],[]⟩) (λ_ R s=>SqOb t1 s.heap l xs/\SqOb t2 s.heap m ys/\R (.ok (.ret (.ref (zH4 t1 t2 s.heap l m).objs.size))) { s with heap:=zH5 t1 t2 s.heap l m }) :=
 .of_wp λprog w A R s h=>by
  obtain⟨hp,g,d,tk,os⟩:=s;obtain⟨hl1,hl2,h⟩:=h;have hsub:=sub_zip;have hL1:SqOb t1 (Shared.heap ⟨hp,g,d,tk,os⟩) l xs:=hl1;have hL2:SqOb t2 (Shared.heap ⟨hp.push { cls:=.type (vH t1),data:=.fields #[.ref l,.int 0 0] },g,d,tk,os⟩) m ys:=hl2.push _
  wp_walk using vF hL1,vF hL2
  exact⟨_,rfl,h⟩
theorem call_zip (hl1:SqOb t1 s.heap l xs) (hl2:SqOb t2 s.heap m ys)
  (h:∀h',IsZ h' (s.heap.objs.size+4) (s.heap.objs.size+2) (s.heap.objs.size+3) .none false->IsPair h' (s.heap.objs.size+2) (.ref s.heap.objs.size) (.ref (s.heap.objs.size+1)) ->
   IsPair h' (s.heap.objs.size+3) .none .none->SqIt t1 h' s.heap.objs.size l 0->SqIt t2 h' (s.heap.objs.size+1) m 0->h'.objs.size=s.heap.objs.size+5 ->
   (∀c o,s.heap.get? c=some o->h'.get? c=some o)->Q (.ref (s.heap.objs.size+4)) { s with heap:=h' }) :
  wpAny (model prog w) A (call (.type "zip") [.ref l,.ref m]) Q E s:=by
 refine callType_new F.called_zip (by decide) (F.typeCall_zip_2 _ _) (F.newCall_zip_2 _ _) (λobj=>F.args_object_init_3 obj _ _) F.entry_zip_new (sH t1 t2 l m xs ys) ⟨hl1,hl2,?_⟩;have z1:(zH1 t1 s.heap l).objs.size=s.heap.objs.size+1:=Xg ..;have z2:(zH2 t1 t2 s.heap l m).objs.size=s.heap.objs.size+2:=by rw[Xg,z1]
 have z3:(zH3 t1 t2 s.heap l m).objs.size=s.heap.objs.size+3:=by rw[Xg,z2]
 have z4:(zH4 t1 t2 s.heap l m).objs.size=s.heap.objs.size+4:=by rw[Xg,z3]
 have z5:(zH5 t1 t2 s.heap l m).objs.size=s.heap.objs.size+5:=by rw[Xg,z4]
 have g5:(zH5 t1 t2 s.heap l m).get? (zH4 t1 t2 s.heap l m).objs.size=some _:=Qt _ rfl;have g4:(zH5 t1 t2 s.heap l m).get? (zH3 t1 t2 s.heap l m).objs.size=some _:=Qc _ (Qt _ rfl);have g3:(zH5 t1 t2 s.heap l m).get? (zH2 t1 t2 s.heap l m).objs.size=some _:=Qc _ (Qc _ (Qt _ rfl));have g2:(zH5 t1 t2 s.heap l m).get? (zH1 t1 s.heap l).objs.size=some _:=Qc _ (Qc _ (Qc _ (Qt _ rfl)));have g1:(zH5 t1 t2 s.heap l m).get? s.heap.objs.size=some _:=Qc _ (Qc _ (Qc _ (Qc _ (Qt _ rfl))));show _/\_;rw[z2,z3,z4]at g5;rw[z1,z2]at g3;rw[z3]at g4;rw[z1]at g2;rw[z4]
 exact⟨⟨_,g5,rfl⟩,h _ g5 g3 g4 (SqIt.of g1) (SqIt.of g2) z5 λc o x =>
  Qc _ (Qc _ (Qc _ (Qc _ (Qc _ x))))⟩
end
end LZg
namespace L2
open PySem PySem.Spec PyProof.Rows
def SqS:Bool->PySem.W.Frag->Hp->Addr->List V->Prop
 | true,K,H,a,xs=>SqT K H a xs
 | false,K,H,a,xs=>SqL K H a xs
variable {xs ys:List V} {pins:B1}
theorem Inv.sq {X:Cx} {U:St} {H:Hp} {s:Shared} (I:Inv X pins U H s) {t:Bool} {a:Addr} (h:SqS t X.K H a xs):∃its:List Value,aQ xs its/\LZg.SqOb t s.heap a its.toArray/\xs.length<=sizeLine:=by
 cases t with
 | true=>obtain⟨its,r,p,z⟩:=I.tuple h;exact⟨its,r,p,z⟩
 | false=>obtain⟨its,r,p,z⟩:=I.list h;exact⟨its,r,p.isList,z⟩
theorem Inv.sq_inj {X:Cx} {U:St} {H:Hp} {s:Shared} (I:Inv X pins U H s) {t:Bool} {a:Addr} (h1:SqS t X.K H a xs) (h2:SqS t X.K H a ys):xs=ys:=by
 cases t with
 | true=>exact I.tuple_inj h1 h2
 | false=>exact I.list_inj h1 h2
noncomputable def oB (t1 t2:Bool) (K:PySem.W.Frag) (a b:Addr):It :=
 ⟨λi H=>(∃xs x,SqS t1 K H a xs/\xs[i]?=some x)/\∃ys y,SqS t2 K H b ys/\ys[i]?=some y,λi H x H'=>∃T v u,H T=none/\x=.ref T/\H'=upd H T (.tup [v,u])/\(∀xs,SqS t1 K H a xs->xs[i]?=some v)/\∀ys,SqS t2 K H b ys->ys[i]?=some u,λi H=>∃xs,SqS t1 K H a xs/\xs.length<=i⟩
theorem rO {t1 t2:Bool} {P:Program} {w:World} {K:PySem.W.Frag} {elts:List Expr} {k:Nat} {pos:Pos} (a bb z TI TO i1 i2:Addr) (D:LZ.Apart5 z TI TO i1 i2 a) (mz:bb≠z) (mTO:bb≠TO) (mi1:bb≠i1) (mi2:bb≠i2) :
  Turn P w K (.Tuple elts k pos) (oB t1 t2 K a bb) [z,TI,TO,i1,i2] z (λi h=>LZ.IsZ h z TI TO .none false/\IsPair h TI (.ref i1) (.ref i2)/\(∃u v,IsPair h TO u v)/\LZg.SqIt t1 h i1 a i/\LZg.SqIt t2 h i2 bb i) where
 mem:=by simp
 obj:=λi h st b hb=>by
  obtain⟨hz,hTI,⟨u,v,hTO⟩,h1,h2⟩:=st;obtain⟨o1,g1,d1⟩:=h1.raw;obtain⟨o2,g2,d2⟩:=h2.raw;simp only[Qj,QA,Xj]at hb;rcases hb with rfl|rfl|rfl|rfl|rfl
  ·exact⟨_,hz,λv q=>by have q':Data.fields _=Data.cell v:=q;cases q'⟩
  ·exact⟨_,hTI,λv q=>by have q':Data.seq _ _=Data.cell v:=q;cases q'⟩
  ·exact⟨_,hTO,λv q=>by have q':Data.seq _ _=Data.cell v:=q;cases q'⟩
  ·exact⟨o1,g1,λv q=>by rw[d1]at q;cases q⟩
  exact⟨o2,g2,λv q=>by rw[d2]at q;cases q⟩
 keep:=λi h h' st kk=>by
  obtain⟨hz,hTI,⟨u,v,hTO⟩,h1,h2⟩:=st;exact⟨kk z (by simp) _ hz,kk TI (by simp) _ hTI,⟨u,v,kk TO (by simp) _ hTO⟩,h1.at λo e=>kk i1 (by simp) o e,h2.at λo e=>kk i2 (by simp) o e⟩
 item:=by
  intro X hP hw hK hc i pins s U H E I hf st hg;subst hP hw hK;obtain⟨⟨xs,y,hq,hx⟩,ys,y2,hq2,hx2⟩:=hg;obtain⟨its,rv,p,hsz⟩:=I.sq hq;obtain⟨u,hu,ru⟩:=rv.get hx;obtain⟨its2,rv2,p2,hsz2⟩:=I.sq hq2;obtain⟨u2,hu2,ru2⟩:=rv2.get hx2;obtain⟨hz,hTI,⟨a0,b0,hTO⟩,h1,h2⟩:=st;refine LZg.next_first D mz mTO mi1 mi2 hz hTI hTO h1 h2 p p2 (v:=u) (u:=u2) (by simpa using hu) (by simpa using hu2) λh' b1 b2 b3 b4 b5 b6 b7=>⟨_,rfl,?_⟩;refine wpAny_letOwnedTupleGo_zip (T:=s.heap.objs.size) b1 λh2' c1 c2=>?_
  have szT:∀c∈[z,TI,TO,i1,i2],c≠s.heap.objs.size:=λc hc=>by
   have:∃o,s.heap.get? c=some o:=by
    simp only[Qj,QA,Xj]at hc;obtain⟨o1,g1,_⟩:=h1.raw;obtain⟨o2,g2,_⟩:=h2.raw;rcases hc with rfl|rfl|rfl|rfl|rfl
    ·exact⟨_,hz⟩
    ·exact⟨_,hTI⟩
    ·exact⟨_,hTO⟩
    ·exact⟨_,g1⟩
    exact⟨_,g2⟩
   obtain⟨o,e⟩:=this;exact QB (Qq e)
  have zT:z≠s.heap.objs.size:=szT z (by simp)
  have keep2:∀b o,b∉[z,TI,TO,i1,i2]->s.heap.get? b=some o->h2'.get? b=some o:=λb o nb q=>by
   simp only[Qj,QA,Xj,not_or]at nb;exact c2.extBut b o nb.1 (b7 b o nb.1 nb.2.2.1 nb.2.2.2.1 nb.2.2.2.2 q)
  have kp:∀{b o},b≠z->h'.get? b=some o->h2'.get? b=some o:=λnb q=>c2.extBut _ _ nb q;have tup2:h2'.get? s.heap.objs.size=some _:=kp (Ne.symm zT) b5
  have I2:Inv X pins U (upd H s.heap.objs.size (.tup [y,y2])) { s with heap:=h2',toks:=s.toks } :=
   I.turnedL (ch:=[z,TI,TO,i1,i2]) keep2 hf (Qg _) ⟨(by show 2<=sizeLine;decide),[u,u2],.cons ru (.cons ru2 .nil),⟨_,tup2,rfl,_,rfl⟩⟩
  obtain⟨a1,b1',b2'⟩:=b2;refine⟨.ref s.heap.objs.size,_,I2,rfl,⟨s.heap.objs.size,y,y2,I.hok.fresh (Qg _),rfl,rfl,λys hy=>by rw[I.sq_inj hy hq];exact hx,λys hy=>by rw[I.sq_inj hy hq2];exact hx2⟩,⟨c1,?_,⟨a1,b1',?_⟩,?_,?_⟩,λb hb=>?_⟩
  ·exact kp D.TIz (b7 TI _ D.TIz D.TITO D.TIi1 D.TIi2 hTI)
  ·exact kp D.TOz b2'
  ·exact b3.at λo e=>kp D.i1z e
  ·exact b4.at λo e=>kp D.i2z e
  rw[ah (szT b hb)];exact(hf b hb).1
 done:=by
  intro X hP hw hK hc i pins s U H E I hf st hg;subst hP hw hK;obtain⟨xs,hq,hx⟩:=hg;obtain⟨its,rv,p,hsz⟩:=I.sq hq;obtain⟨hz,hTI,hTO,h1,h2⟩:=st;have hlen:=rv.length;refine LZg.next_end (a:=.none) (b:=.none) (I.ok.hd hc) D hz (.inl ⟨rfl,rfl,hTO⟩) hTI h1 p (by simp;omega) λh' eb=>⟨rfl,?_⟩
  exact I.turnedE (t':=s.toks) (ch:=[z,TI,TO,i1,i2]) (λb o nb q=>by
   simp only[Qj,QA,Xj,not_or]at nb
   exact eb b o nb.1 nb.2.2.2.1 q) hf
 self:=λ_ _ _ _ _ st h=>wpAny_pyIter_zip st.1 h
section
variable {X:Cx} {elts:List Expr} {k:Nat} {tpos:Pos}
def AS (K:PySem.W.Frag) (ta:TA):TI:=λU H R=>ta U H λvs H1=>∃a b t1 t2,vs=[.ref a,.ref b]/\(∃xs,SqS t1 K H1 a xs)/\(∃ys,SqS t2 K H1 b ys)/\R (oB t1 t2 K a b) H1
theorem ij {a b:Expr} {ta:TA} {p pos:Pos} (hg:Gl X "zip") (hm:X.mg "zip" = none) (ha:PA X [a,b] ta) (hs:starEach [a,b] X.env=[(false,eval a X.env),(false,eval b X.env)]:=by rfl) (hs2:starEach [b] X.env=[(false,eval b X.env)]:=by rfl):PI X (.Tuple elts k tpos) (.Call (.Name "zip" p) [a,b] [] pos) (AS X.K ta):=by
 intro pins s U H R I h;refine Call_ (cL I hg hm boot_zip (Xd (thn (ha pos pins s U H _ I h) λus s1 ⟨vs,H1,I1,r1,q1⟩=>?_) (by rw[hs,hs2]) (by rw[hs2];rfl)));obtain⟨l,m,t1,t2,e,⟨xs,hq⟩,⟨ys,hq2⟩,q⟩:=q1;subst e;obtain⟨u1,u2,eu,r3,r2⟩:=lV r1;subst eu;cases (show u1=Value.ref l from r3);cases (show u2=Value.ref m from r2)
 have frs:∀b∈[s1.heap.objs.size+4,s1.heap.objs.size+2,s1.heap.objs.size+3,s1.heap.objs.size,s1.heap.objs.size+1],s1.heap.objs.size<=b:=λb hb=>by
  simp only[Qj,QA,Xj]at hb;rcases hb with rfl|rfl|rfl|rfl|rfl
  ·exact QQ _ _
  ·exact QQ _ _
  ·exact QQ _ _
  ·exact Qg _
  exact QQ _ _
 obtain⟨its,rv,pl,hz⟩:=I1.sq hq;obtain⟨its2,rv2,pl2,hz2⟩:=I1.sq hq2;refine LZg.call_zip pl pl2 λh' b1 b2 b3 b4 b5 b6 b7=>?_;refine wpAny_pyIter_zip b1 ?_;have I2:Inv X pins U H1 { s1 with heap:=h' }:=I1.kept (t':=s1.toks) b7;have ll:@LT.lt Nat _ l s1.heap.objs.size:=pl.lt;have lm:@LT.lt Nat _ m s1.heap.objs.size:=pl2.lt;refine⟨s1.heap.objs.size+4,[s1.heap.objs.size+4,s1.heap.objs.size+2,s1.heap.objs.size+3,s1.heap.objs.size,s1.heap.objs.size+1],_,_,H1,rfl,I2,rO l m (s1.heap.objs.size+4) (s1.heap.objs.size+2) (s1.heap.objs.size+3) s1.heap.objs.size (s1.heap.objs.size+1) ?_ (by show @Ne Nat _ _;omega) (by show @Ne Nat _ _;omega) (by show @Ne Nat _ _;omega) (by show @Ne Nat _ _;omega),⟨b1,b2,⟨_,_,b3⟩,b4,b5⟩,λb hb=>I1.fpOk (frs b hb) (I1.hok.fresh (frs b hb)),q⟩
 constructor <;> (show @Ne Nat _ _;omega)
theorem vO {t1 t2:Bool} {K:PySem.W.Frag} {a b:Addr} {xs us:List V} {g:TG} {tb:TS} {D:Ends} {U:St} {H:Hp} (hz:xs.length<=us.length) (Pv:Nat->St->Hp->Prop) (h0:Pv 0 U H) (hl:∀i U H,i<=xs.length->Pv i U H->SqS t1 K H a xs/\SqS t2 K H b us)
  (hs:∀i x u U H T,xs[i]?=some x->us[i]?=some u->Pv i U H->H T=none->g (.ref T) U (upd H T (.tup [x,u])) λσ2 H2=>tb { D with nx:=Pv (i+1),ct:=Pv (i+1),bk:=D.nx } σ2 H2) (hd:∀U H,Pv xs.length U H->D.nx U H) :
  ∃W:Nat->Nat->St->Hp->Prop,(∃m,W 0 m U H)/\∀i m U H,W i m U H ->
   ((oB t1 t2 K a b).stop i H/\D.nx U H)\/((oB t1 t2 K a b).go i H/\∃N:St->Hp->Prop,(∀σ' H',N σ' H'->∃m',m'<m/\W (i+1) m' σ' H')/\∀x H',(oB t1 t2 K a b).yld i H x H'->g x U H' λσ2 H2=>tb { D with nx:=N,ct:=N,bk:=D.nx } σ2 H2):=by
 refine⟨λi m U H=>m=xs.length-i/\i<=xs.length/\Pv i U H,⟨_,rfl,QR _,h0⟩,?_⟩;rintro i m U H ⟨rfl,hi,p⟩;obtain⟨d1,d2⟩:=hl i U H hi p;by_cases hlt:i<xs.length
 ·refine .inr ⟨⟨⟨xs,xs[i],d1,by simp[hlt]⟩,us,us[i]'(by omega),d2,by rw[Qe (by omega)]⟩,Pv (i+1),λσ' H' p'=>⟨xs.length-(i+1),by omega,rfl,hlt,p'⟩,λx H' y=>?_⟩;obtain⟨T,v,u,hT,ex,eH,hv,hu⟩:=y;subst ex eH;exact hs i v u U H T (hv _ d1) (hu _ d2) p hT
 have e:i=xs.length:=by omega
 subst e;exact .inl ⟨⟨xs,d1,Qg _⟩,hd U H p⟩
end
theorem vY {a:Nat} (h:a<=xs.length):je xs (some (a:Int)) none=xs.drop a:=by
 unfold je;rw[HT.qJ,HT.mJ,Nat.min_eq_left h,QV (by rw[XG];exact om1)]
theorem zI {a:Nat} (h:a<=xs.length):je xs none (some (a:Int))=xs.take a:=by
 unfold je;rw[HT.qJ,HT.mJ,Nat.min_eq_left h];simp
theorem vS {x:V} (h:bY x=true):eqV x x=true:=by
 cases x <;> first|(simp[eqV];done)|(simp[bY]at h;done)|simp_all [eqV,bY]
theorem jo (n:Nat):((List.range n).all λ_=>true)=true:=QT.mpr λ_ _=>rfl
section
variable {K:PySem.W.Frag} {H:Hp} {Q:VK}
theorem gy {n:Nat} {x:V} (h:bY x=true):EqD K H n x x true:=by
 have q:=EqD.flat (K:=K) (H:=H) (n:=n) h h;rwa [vS h]at q
variable {xs ys:List V} {a b l:Addr}
theorem nU {n:Nat} (h1:SqL K H a xs) (h2:SqL K H b ys) (hl:xs.length=ys.length) (hi:∀(j:Nat) x y,xs[j]?=some x->ys[j]?=some y->EqD K H n x y true):EqD K H (n+1) (.ref a) (.ref b) true:=by
 by_cases e:a=b
 ·subst e;exact .same
 have q:=EqD.lists (e:=λ_=>true) h1 h2 hl hi e;rwa [jo]at q
theorem gT {n:Nat} (f:xs.all bY=true):∀(j:Nat) x y,xs[j]?=some x->xs[j]?=some y->EqD K H n x y true:=λj x y e1 e2=>by
 rw[e1]at e2;cases e2;exact gy (QT.mp f x (Qk e1))
theorem AQ (h1:SqL K H a xs) (h2:SqL K H b ys) (hl:xs.length=ys.length) (hi:∀(j:Nat) x y,xs[j]?=some x->ys[j]?=some y->EqD K H 8 x y true) (q:Q (.bl true) H):oW K false (.ref a) (.ref b) H Q:=by
 refine⟨a,b,xs,ys,λ_=>true,rfl,rfl,h1,h2,hi,?_⟩;rw[jo,hl,beq_self_eq_true];exact q
theorem AO (h1:SqL K H a xs) (h2:SqL K H b ys) (hl:xs.length=ys.length) (hi:∀(j:Nat) x y,xs[j]?=some x->ys[j]?=some y->EqD K H 8 x y true) (q:Q (.bl false) H):oW K true (.ref a) (.ref b) H Q:=by
 refine⟨a,b,xs,ys,λ_=>true,rfl,rfl,h1,h2,hi,?_⟩;rw[jo,hl,beq_self_eq_true];exact q
theorem yo (h1:SqT K H a xs) (h2:SqT K H b ys) (hl:xs.length=ys.length) (hi:∀(j:Nat) x y,xs[j]?=some x->ys[j]?=some y->EqD K H 8 x y true) (q:Q (.bl false) H):r_ K true (.ref a) (.ref b) H Q:=by
 refine⟨a,b,xs,ys,λ_=>true,rfl,rfl,h1,h2,hi,?_⟩;rw[jo,hl,beq_self_eq_true];exact q
theorem qL {R:Bool->Hp->Prop} {U:St} (hl:H l=some (.lst xs)) (q:∀H',aj H H'->R (decide (xs.length=0)) H'):wg lY U H λy H2=>oW K false (.ref l) y H2 λx H'=>∃k,x=.bl k/\R k H':=by
 refine i_lst (aZ ⟨by simp[sizeLine],λp hp=>?_⟩);refine⟨l,p,xs,[],λ_=>true,rfl,rfl,SqL.of (aw hp _ _ hl),SqL.of af,λj x y _ e=>by simp at e,_,rfl,?_⟩
 have e:(if false=true then !(xs.length==([]:List V).length&&(List.range xs.length).all λ_=>true) else (xs.length==([]:List V).length&&(List.range xs.length).all λ_=>true))=decide (xs.length=0):=by
  rw[Qo Qr,jo,Bool.and_true];rfl
 rw[e];exact q _ (aw hp)
end
section
variable {X:Cx}
def uv (T:Addr):R2:=λx y H Q=>x=.ref T/\((y=.str "+" /\ Q (.str "0") H)\/(y=.str "-" /\ Q (.str "1") H))
theorem zu {T:Addr} (hT:ix X.K T [("+", .flat (.str "0")),("-", .flat (.str "1"))]):IxR X (uv T):=by
 intro value slice pins s U H x y v u Q I rx ry h hs;obtain⟨e1,h⟩:=h;subst e1;cases rx;have here:KTD.Here X.base s.heap T [("+", .flat (.str "0")),("-", .flat (.str "1"))]:=⟨KTD.text_of_look (get:=λa=>X.K.lookup a) (λa o e=>I.mod.kin a o e) hT,I.bk⟩;rcases h with⟨e,q⟩|⟨e,q⟩
 ·subst e;obtain⟨t,e⟩:=ry;subst e;refine KTD.item_textA here (by rfl) (by decide +kernel) ?_ hs;have e:decide (("+" : Str) = "+")=true:=by decide +kernel
  simp only[KTD.EachL,e,if_true];exact λt=>⟨.str "0", H,I.tok _,⟨_,rfl⟩,q⟩
 subst e;obtain⟨t,e⟩:=ry;subst e;refine KTD.item_textA here (by rfl) (by decide +kernel) ?_ hs;have e:decide (("-" : Str) = "+")=false:=by decide +kernel
 simp only[KTD.EachL,e,QG,XD];exact λ_ t=>⟨.str "1", H,I.tok _,⟨_,rfl⟩,q⟩
end
section
variable {X:Cx} {scope:Scope} {tgs:List Str} {cap:List (Str × Nat)}
theorem mK {j:Nat} {x:Str} {pos' spos:Pos} {elt tg iter:Expr} {ifs:List Expr} {pos:Pos} {wi:TI} {g:TG} {tt:TT} {te:TE} (hN:X.N.Nodup) (hj:X.N[j]?=some x) (hx:Loc X.env.scope x) (hc:X.calm=true) (B:BlockOk X scope tgs cap) (hi:PI X tg iter wi)
  (hg:∀C s H fp,PG (X.block (tgs++cap.map (·.1)) scope C s H fp) tg g) (ht:∀C s H fp,xM (X.block (tgs++cap.map (·.1)) scope C s H fp) ifs tt) (he:∀C s H fp,PE (X.block (tgs++cap.map (·.1)) scope C s H fp) elt te)
  (hs:∀x,foldedSetIterable iter X.env x=pure x:=by intro _;rfl) (hsw:swapsWith (.ListComp elt [⟨tg,iter,ifs,0⟩] scope pos) (some (.Name x pos')) spos.line X.env=pure true:=by rfl)
  (hf:X.fn x=true\/X.env.scope.names.lookup x=some .local:=by z_go):PS X (.Assign [.Name x pos'] (.ListComp elt [⟨tg,iter,ifs,0⟩] scope pos) spos) (tT (iy wi g tt te (bI tgs cap)) (d5 j)):=by
 intro pins s U H D I h;rw[exec_Assign_Name_used _ _ _ _ hsw];refine Qa (wpAny_standAt (Qa ?_));show wpAny _ _ (comprehension _ _ _ _ _ _ _ _ >>= _) _ _ _;refine Qa (thn (Q:=λ_ s'=>SP X pins D .next s') ?_ λ_ s' q=>Qf (Qf q));refine wpAny_comprehension_free (use:=some (assign (.Name x pos') X.env)) rfl hs (ji (B.cellAt I.ok)) B.kind B.locs (thn (hi pins s U H _ I h) λv s1 h1=>thn h1 λitv s2 h2=>?_);obtain⟨it,fp,tn,J,H2,e,I2,T,st2,f2,q⟩:=h2;subst e;have lt2:∀b∈fp,b<s2.heap.objs.size:=λb hb=>let ⟨o,e,_⟩:=T.obj _ _ st2 b hb;Qq e;have hD:H2 s2.heap.objs.size=none:=I2.hok.fresh (Qg _);obtain⟨W,⟨m0,w0⟩,turn⟩:=q s2.heap.objs.size hD;refine Xi ?_;have I3:Inv X pins U (upd H2 s2.heap.objs.size (.lst [])) { s2 with heap:=s2.heap.push { cls:=.type "list", dict:=none,data:=.seq ([]:List Value).toArray } }:=I2.lnew (t':=s2.toks) (ys:=[]) (its:=[]) .nil (QR _);have st3:tn 0 (s2.heap.push { cls:=.type "list", dict:=none,data:=.seq ([]:List Value).toArray }):=T.keep _ _ _ st2 λb _ o e=>Qc _ e;have nD:∀b∈fp,b≠s2.heap.objs.size:=λb hb=>QB (lt2 b hb);have f3:∀b∈fp,fi X pins (upd H2 s2.heap.objs.size (.lst [])) b:=λb hb=>⟨by rw[ah (nD b hb)];exact(f2 b hb).1,(f2 b hb).2⟩;generalize hs3:({ s2 with heap:=s2.heap.push { cls:=.type "list", dict:=none,data:=.seq ([]:List Value).toArray } }:Shared)=s3 at I3 st3 ⊢;have st3':tn 0 s3.heap:=by rw[<-hs3];exact st3
 have lt3:∀b∈fp,b<s3.heap.objs.size:=λb hb=>let ⟨o,e,_⟩:=T.obj _ _ st3' b hb;Qq e;generalize hH3:upd H2 s2.heap.objs.size (.lst [])=H3 at I3 f3 w0;generalize s2.heap.objs.size=DD at *;refine wpAny_newFunctionEnv B.noc (by intro y hy;simp at hy) (λh1 hns hsb=>?_) B.kind;have old:∀b o,s3.heap.get? b=some o->h1.get? b=some o:=λb o e=>hsb.extBut b o (QB (Qq e)) (Qc _ e);have I4:=Inv.enter (tk:=s3.toks+([]:List (Str × Value)).length) (h1:=h1) B I3 f3 lt3 hns old;have st4:tn 0 h1:=T.keep _ _ _ st3' λb _ o e=>old b o e
 have fpB:∀{H':Hp},(∀b∈fp,H' b=none)->∀b∈fp,fi (X.block (tgs++cap.map (·.1)) scope s3.heap.objs.size s3 H3 fp) [] H' b:=λ{H'} hn b hb =>
  ⟨hn b hb,QB (lt3 b hb),I4.ok.exfs b hb,.inl hb,λx c e=>(I4.ok.exf b hb).2 x c e,λp hp=>absurd (show p∈([]:B1) from hp) (by simp)⟩
 have loop:codeAny (model X.prog X.w) X.A (.compLoop (.ListComp elt [⟨tg,iter,ifs,0⟩] scope pos) 0 (.ref it) (.ref DD) (compEnvC scope (cH X.env scope.names []) s3.heap.objs.size X.env))
   (compPost (model X.prog X.w) X.A X.xe (some (assign (.Name x pos') X.env)) (λ_ s'=>SP X pins D .next s') (.ref DD) s3.heap.objs.size) { s3 with heap:=h1,toks:=s3.toks+([]:List (Str × Value)).length }:=by
  refine gB (λn s'=>∃i H' ys,Inv (X.block (tgs++cap.map (·.1)) scope s3.heap.objs.size s3 H3 fp) [] (bI tgs cap U) H' s'/\tn i s'.heap/\(∀b∈fp,H' b=none)/\W i n H' ys) ?_ m0 ⟨0,H3,[],I4,st4,λb hb=>(f3 b hb).1,w0⟩;rintro n s5 ⟨i,H5,ys,I5,st5,fr5,w5⟩;obtain⟨hl,ht5⟩:=turn i n H5 ys w5;rcases ht5 with⟨stop,qd⟩|⟨go,step⟩
  ·refine thn (T.done (X.block (tgs++cap.map (·.1)) scope s3.heap.objs.size s3 H3 fp) rfl rfl rfl hc i [] s5 _ H5 _ I5 (fpB fr5) st5 stop) λr s6 ⟨hr,I6⟩=>?_;subst hr;obtain⟨m6,n6,_⟩:=I6.loc;have IO:Inv X pins U H5 s6:=Inv.leave (h2:=s6.heap) I3 f3 I6 ⟨rfl,λ_ _=>rfl⟩;have fC:fi X pins H5 s3.heap.objs.size:=⟨I6.free,(I3.fpOk (Qg _) (I3.hok.fresh (Qg _))).2⟩;obtain⟨f0,f1,f2',f3',f4,f5⟩:=fC;refine wpAny_assign_Name (jI IO hN hj hx (show aL (.ref DD) (.ref DD) from rfl) (λs7 I7 ⟨a,sb,ha⟩=>?_) hf)
   have na:s3.heap.objs.size≠a:=by
    rcases ha with z|z
    ·rw[z];exact f1
    exact λy=>f4 x a z y.symm
   obtain⟨o6,es6,ep6,ho6,r6⟩:=n6;refine⟨m6,⟨o6,es6,ep6,(sb.2 _ na).trans ho6,r6⟩,λh' hs'=>⟨_,H5,I7.turned (t':=s7.toks) (λb o hb q=>(hs'.2 b hb).trans q) f0 f1 f3' f4 f5,qd⟩⟩
  refine thn (T.item (X.block (tgs++cap.map (·.1)) scope s3.heap.objs.size s3 H3 fp) rfl rfl rfl hc i [] s5 _ H5 _ I5 (fpB fr5) st5 go) λr s6 ⟨u,hr,h6⟩=>?_;subst hr;refine thn h6 λ_ s7 ⟨x,H7,I7,r7,y7,st7,fr7⟩=>?_;have I7':=I7.pinned (fpB fr7) (T.obj _ _ st7)
  have again:∀{σ8:St} {H8:Hp} {s8:Shared} {ys8:List V},Inv (X.block (tgs++cap.map (·.1)) scope s3.heap.objs.size s3 H3 fp) ([]++gN fp s7.heap) σ8 H8 s8->wk (bI tgs cap U) σ8->(∃m',m'<n/\W (i+1) m' H8 ys8) ->
    ∃m,m<n/\∃i H' ys,Inv (X.block (tgs++cap.map (·.1)) scope s3.heap.objs.size s3 H3 fp) [] (bI tgs cap U) H' s8/\tn i s8.heap/\(∀b∈fp,H' b=none)/\W i m H' ys:=λ{σ8 H8 s8 ys8} I8 k8 ⟨m',hm,w8⟩=>by
   refine⟨m',hm,i+1,H8,ys8,I8.unpinned.weak (kD k8) (kG k8),T.keep _ _ _ st7 λb hb o e=>(I8.pin (b,o) (QH _ (QH _ (cJ hb e)))).1,λb hb=>?_,w8⟩;obtain⟨o,e,d⟩:=T.obj _ _ st7 b hb;exact(I8.pin (b,o) (QH _ (QH _ (cJ hb e)))).2.1
  refine thn (hg _ _ _ _ _ s7 _ H7 x u _ I7' r7 (step x H7 y7)) λ_ s8 ⟨σ8,H8,I8,k8,q8⟩=>?_;refine thn (ht _ _ _ _ _ s8 σ8 H8 _ I8 q8) λok s9 ⟨H9,I9,q9⟩=>?_
  cases ok with
  | false =>
   rw[Qo Qr]at q9 ⊢;exact again I9 k8 q9
  | true =>
  rw[Qs rfl]at q9 ⊢;refine thn (he _ _ _ _ _ s9 σ8 H9 _ I9 q9) λy sA ⟨yv,HA,IA,rA,hA,zA,qA⟩=>?_;exact thn (bt _ sA σ8 HA (.ref DD) [yv] (.ref DD) [y] (λv H'=>v=.non/\∃m',m'<n/\W (i+1) m' H' (ys++[yv])) IA rfl (.cons rA .nil) ⟨DD,ys,yv,rfl,rfl,hA,zA,rfl,qA⟩) λ_ sB ⟨_,HB,IB,_,_,qB⟩=>again IB k8 qB
 exact codeAny_compStart_list loop (T.self _ 0 _ _ _ st4 loop)
end
end L2
namespace LS
open PySem PySem.Spec PyProof.Rows
def met (g:Nat->Str):Nat->List Str
 | 0=>[]
 | i+1=>if g i∈met g i then met g i else met g i++[g i]
theorem lf (g:Nat->Str):∀i,(met g i).length<=i
 | 0=>Qg _
 | i+1=>by
  have q:=lf g i;show (if g i∈met g i then met g i else met g i++[g i]).length<=i+1
  split
  ·omega
  simp;omega
theorem lc (g:Nat->Str) (x:Str):∀i,x∈met g i↔∃j,j<i/\g j=x
 | 0=>by simp[met]
 | i+1=>by
  have q:=lc g x i
  have e:x∈met g (i+1)↔x∈met g i\/x=g i:=by
   show x∈(if g i∈met g i then met g i else met g i++[g i])↔_;by_cases h:g i∈met g i
   ·rw[Qs h];exact⟨.inl,λz=>z.elim id λz=>z▸h⟩
   rw[Qo h];simp
  rw[e,q]
  constructor
  ·rintro(⟨j,a,b⟩|a)
   ·exact⟨j,by omega,b⟩
   exact⟨i,by omega,a.symm⟩
  rintro⟨j,a,b⟩;rcases Nat.lt_succ_iff_lt_or_eq.mp a with c|c
  ·exact .inl ⟨j,c,b⟩
  subst c;exact .inr b.symm
theorem xw {g:Nat->Str} {n:Nat} (h:n+1<scanBound):∀i,i<n->(met g i).length+1<scanBound:=λi hi=>by have:=lf g i;omega
section
variable {prog:Program} {w:World} {A:Around} {R:Result->Shared->Prop} {I S:Addr} {fp wr:B3} {G:Array GenState->Array GenState->Prop} {n:Nat} {P:Nat->Value->Prop} {St:Nat->Shared->Prop}
abbrev g_ (prog:Program) (w:World) (h:Heap) (S:Addr) (g:Nat->Str) (i:Nat):Prop:=cY prog w h S (λx=>decide (x∈met g i)) (met g i).length
theorem g_.at {h h':Heap} {g:Nat->Str} {i:Nat} (q:g_ prog w h S g i) (k:∀o,h.get? S=some o->h'.get? S=some o):g_ prog w h' S g i:=by
 obtain⟨o,es,ep,t,e,r⟩:=q;exact⟨o,es,ep,t,k _ e,r⟩
theorem set_loop (W:WalksS prog w A.in1 I fp wr G n P St) (nS:S∉fp) (g:Nat->Str) (hg:∀i v,P i v->∃t,v=.str (g i) t) (hb:∀i,i<n->(met g i).length+1<scanBound) :
  ∀(m i:Nat) (s:Shared),n-i=m->i<=n->St i s->g_ prog w s.heap S g i->(∀s',Moved (S::wr) G s s'->g_ prog w s'.heap S g n->R (.ok (.ret .none)) s') ->
   codeAny (model prog w) A (.builtin "set.update.loop" ⟨[.ref S,.ref I],[]⟩) R s:=by
 have nW:S∉wr:=λz=>nS (W.sub _ z);have more:∀b∈wr,b∈S::wr:=λb z=>Qn _ z;intro m
 induction m with
 | zero =>
  intro i s em hi st q fin;obtain rfl:i=n:=by omega
  refine XF F.entry_set_update_loop ?_;rw[Xs Za _];show wpAny _ A.in1 (pyNext (.ref I) >>= _) _ _ s;exact Qa (W.done s _ _ st λs1 mv=>Qf (fin s1 (mv.mono more) (q.at λo e=>mv.heap S _ nW e)))
 | succ m ih =>
 intro i s em hi st q fin;have lt:i<n:=by omega
 refine XF F.entry_set_update_loop ?_;rw[Xs Za _];show wpAny _ A.in1 (pyNext (.ref I) >>= _) _ _ s;refine Qa (W.item i s _ _ lt st λv s1 hP st1 mv=>?_);obtain⟨t,rfl⟩:=hg i v hP;have q1:=q.at λo e=>mv.heap S _ nW e;show wpAny _ A.in1 (holding [Value.str (g i) t] (setAdd S (.str (g i) t)) >>= _) _ _ s1;refine Qa (QZ ?_);unfold setAdd;refine QZ (Qa ((strKind prog w).pyHash (k:=g i) (strKind_is _ _ _ _) ?_));have room:=hb i lt;refine xJ (s:={ s1 with toks:=s1.toks+1 }) q1 room λh2 _ sb q2=>?_
 have q3:g_ prog w h2 S g (i+1):=by
  refine cY.congr q2 (λx=>?_) ?_
  ·show (decide (x∈met g i) || decide (x=g i))=decide (x∈(if g i∈met g i then met g i else met g i++[g i]));by_cases z:g i∈met g i
   ·rw[Qs z];by_cases y:x=g i
    ·subst y;simp[z]
    simp[y]
   rw[Qo z];simp
  show (if decide (g i∈met g i)=true then _ else _)=(if g i∈met g i then met g i else met g i++[g i]).length;by_cases z:g i∈met g i
  ·simp[z]
  simp[z]
 refine Qf ⟨plainId_quiet Za _,ih (i+1) _ (by omega) lt (W.frame _ s1 _ _ st1 (X3 _) λb z o e=>?_) q3 λs3 mv3 q4=>?_⟩
 ·rw[sb.2 b (λy:b=S=>nS (by rw[<-y];exact z))];exact e
 refine fin s3 (Moved.trans W.gtrans ((mv.mono more).then_heap (X3 _) λb o z e=>?_) mv3) q4;rw[sb.2 b (λy:b=S=>z (by rw[y];exact Xp))];exact e
end
section
variable {prog:Program} {w:World} {A:Around} {E:B0} {s:Shared}
theorem lI {l:Addr} {its:Array Value} {g:Nat->Str} {Q:B0} (hh:A.handled=none) (hl:s.heap.IsList l its) (hi:∀(i:Nat) (v:Value),its[i]?=some v->∃t,v=.str (g i) t) (hb:∀i,i<its.size->(met g i).length+1<scanBound)
  (h:∀(h1:Heap) (tk:Nat),g_ prog w h1 s.heap.objs.size g its.size->(∀b o,s.heap.get? b=some o->h1.get? b=some o)->Q (.ref s.heap.objs.size) { s with heap:=h1,toks:=tk }) :
  wpAny (model prog w) A (call (.type "set") [.ref l]) Q E s:=by
 obtain⟨cl,tl,mro⟩:=XM.mro;have y1:=XM.made;have y2:=XM.sub;refine wpAny_call (codeAny_of_tree ?_);show wpAny _ _ (callAny (.type "set") ⟨[.ref l],[]⟩) _ _ _;refine Qf ⟨Code.quiet_builtin _ (by decide +kernel),XF F.entry_type_call ?_⟩;rw[Around.under_plain (weight_type_call_type "set" [.ref l] []) rfl];have y3:=XM.notType;have y4:=XM.canCreate;have y5:=F.typeCall_set_1 (.ref l)
 repeat (any_goals (first|assumption|wp_step))
 refine codeAny_mono (n9 (.ref l) (E:=E) (Q₁:=λv s1=>∃led:Bool,led=!(w.params.followText "set-order")/\v=.ref s.heap.objs.size/\s1={ s with heap:=s.heap.push (bare led) }) ⟨_,rfl,rfl,rfl⟩) λr s1 hr=>?_
 cases r with
 | error e=>exact hr
 | ok fl =>
 cases fl with
 | ret obj =>
  obtain⟨led,hled,rfl,rfl⟩:=hr;have hS:(s.heap.push (bare led)).get? s.heap.objs.size=some (bare led):=Qt _ rfl;have hT:Shared.TypeIs { s with heap:=s.heap.push (bare led) } (.ref s.heap.objs.size) "set" := ⟨_,hS,rfl⟩;have y6:=XM.init.lookup;have y7:=XM.init.bind (.ref s.heap.objs.size)
  repeat (any_goals (first|assumption|wp_step))
  refine codeAny_mono (codeAny_call_builtin (R:=wants (λv s2=>v=.none/\∃h1 tk,s2={ s with heap:=h1,toks:=tk }/\g_ prog w h1 s.heap.objs.size g its.size/\∀b o,s.heap.get? b=some o->h1.get? b=some o) E) XM.init.plain F.entry_set_init (check_set_init_1 hT ?_)) λr2 s2 hr2=>?_
  ·obtain⟨ol,hol,hcl,nl,hdl⟩:=hl;obtain⟨ocls,odict,odata,oslots⟩:=ol;simp only at hcl hdl;subst hcl;subst hdl;have hol1:(s.heap.push (bare led)).get? l=some { cls:=.type "list", dict:=odict,data:=.seq its nl,slots:=oslots }:=Qc _ hol;have y8:=F.sub_list_set;have y9:=F.sub_list_frozenset;have y0:(Value.type "list" == Value.type "dict")=false:=by decide
   have hl1:(s.heap.push (bare led)).IsList l its:=⟨_,hol1,rfl,nl,rfl⟩;unfold Builtin.«set.__init__» noKeywords Builtin.Frozenset.updateFrom;generalize hPI:pyIter=PI
   wp_walk
   subst hPI;refine wpAny_pyIter_list hl1 ?_;refine Qa (wpAny_runValue ?_);have lS:l<s.heap.objs.size:=Qq hol
   have nI:l≠(s.heap.push (bare led)).objs.size:=by
    rw[Xg];exact QB (Nat.lt_succ_of_lt lS)
   have nF:s.heap.objs.size∉[(s.heap.push (bare led)).objs.size,l]:=by
    rw[Xg];simp only[Qj,Qy,QA,Xj,not_or];exact⟨QB (Nat.lt_succ_self _),Nat.ne_of_gt lS⟩
   refine set_loop ((Walks.list (show A.in1.in1.in1.handled=none by simp[hh]) _ l nI its).toS) nF g hi hb (its.size-0) 0 _ (by omega) (QR _) ⟨⟨_,Qt _ rfl,rfl,rfl⟩,(hl1.push _)⟩ ?_ λs3 mv q=>?_
   ·have e:((s.heap.push (bare led)).push { cls:=.type "list_iterator", data:=.fields #[.ref l,.int 0 0] }).get? s.heap.objs.size=some (bare led):=Qc _ hS;exact cY.congr (cY.bare (by rw[e,hled])) (λ_=>by simp[met]) rfl
   obtain⟨h3,g3,d3,tk3,os3⟩:=s3;obtain rfl:g3=s.gens:=mv.gens;obtain rfl:d3=s.drawn:=mv.drawn;obtain rfl:os3=s.os:=mv.os;show wpAny _ _ _ _ _ _;refine Qf ?_;show wpAny _ _ (ret Value.none) _ _ _;refine Qf ⟨rfl,h3,tk3,rfl,q,λb o e=>?_⟩;have lb:=Qq e;have z1:b≠s.heap.objs.size:=QB lb
   have z2:b≠(s.heap.push (bare led)).objs.size:=by
    rw[Xg];exact QB (Nat.lt_succ_of_lt lb)
   exact mv.heap b o (by simp only[Qj,Qy,QA,Xj,not_or];exact⟨z1,z2⟩) (Qc _ (Qc _ e))
  cases r2 with
  | error e=>exact hr2
  | ok fl2 =>
  cases fl2 with
  | ret r =>
   obtain⟨rfl,h1,tk,rfl,q,k⟩:=hr2
   repeat (any_goals (first|assumption|wp_step))
   exact h _ _ q k
  | _=>exact hr2.elim
 | _=>exact hr.elim
end
end LS
namespace L2
open PySem PySem.Spec PyProof.Rows
def oF (ts:List Str):Nat:=(LS.met (λi=>ts.getD i Str.empty) ts.length).length
section
variable {X:Cx} {a:Expr} {ta:TA} {p p1 pos pos1:Pos}
def qp (K:PySem.W.Frag) (ta:TA):TE:=λU H Q=>ta U H λvs H1=>∃l ts,vs=[.ref l]/\SqL K H1 l (ts.map V.str)/\ts.length<1000/\Q (.int (oF ts)) H1
theorem jP (hc:X.calm=true) (hg:Gl X "len") (hm:X.mg "len" = none) (hg1:Gl X "set") (hm1:X.mg "set" = none) (ha:PA X [a] ta) (hs:starEach [a] X.env=[(false,eval a X.env)]:=by rfl)
  (he:starEach [.Call (.Name "set" p1) [a] [] pos1] X.env=[(false,eval (.Call (.Name "set" p1) [a] [] pos1) X.env)]:=by rfl) :
  PE X (.Call (.Name "len" p) [.Call (.Name "set" p1) [a] [] pos1] [] pos) (qp X.K ta):=by
 intro pins s U H Q I h;refine wpAny_Call_Name_kw (cL I hg hm QL ?_);refine PyProof.Rows.callWith_builtin1 ?_ he rfl;rw[he];show wpAny _ _ (spliced ((false,eval (.Call (.Name "set" p1) [a] [] pos1) X.env)::backTo pos [])) _ _ s;refine XI ?_;refine Call_ (cL I hg1 hm1 PyProof.Rows.boot_set (Xd (thn (ha pos1 pins s U H _ I h) λus s1 z=>?_) hs rfl));obtain⟨vs,H1,I1,r1,l,ts,e,hl,hsm,q⟩:=z;subst e;obtain⟨u1,e,ru1⟩:=cZ r1;subst e;cases ru1;obtain⟨its,rv,pl,_⟩:=I1.list hl;have hlen:its.length=ts.length:=by rw[<-rv.length,Qb]
 refine LS.lI (its:=its.toArray) (g:=λi=>ts.getD i Str.empty) (I1.ok.hd hc) pl.isList (λi v hv=>?_) (LS.xw (by rw[Ql,hlen];unfold scanBound;omega)) λh3 tk q3 kept=>?_
 ·have hv':its[i]?=some v:=by simpa using hv
  have hi:i<ts.length:=by
   have:=(Qd.mp hv').1;omega
  have e1:(ts.map V.str)[i]?=some (.str (ts.getD i Str.empty)):=by
   rw[Qp,Qe hi,Qx,Qe hi];rfl
  obtain⟨u,hu,ru⟩:=rv.get e1;rw[hv']at hu;cases hu;obtain⟨t,e2⟩:=ru;exact⟨t,e2⟩
 refine Calls.spliced_nil ?_;have hz:its.toArray.size=ts.length:=by rw[Ql];exact hlen
 rw[hz]at q3;obtain⟨o,es,ep,t,ho,hex,hd,_,_,_,hf,hn,_⟩:=q3;have hle:=LS.lf (λi=>ts.getD i Str.empty) ts.length;refine PySem.call_len_set ho hex hd hf (by rw[hn];omega) ?_;exact⟨.int (oF ts),H1,I1.kept (t':=tk+1+1) kept,⟨tk+1,by rw[hn];rfl⟩,q⟩
end
end L2
namespace LS
open PySem
theorem m9 (g:Nat->Str):∀n,(met g n).length=n↔∀i j,i<n->j<n->g i=g j->i=j
 | 0=>⟨λ_ i j h=>absurd h (X8 _),λ_=>rfl⟩
 | n+1=>by
  have ih:=m9 g n;have le:=lf g n
  have e:(met g (n+1)).length=if g n∈met g n then (met g n).length else (met g n).length+1:=by
   show (if g n∈met g n then met g n else met g n++[g n]).length=_
   split <;> simp
  constructor
  ·intro h;rw[e]at h;have ni:g n∉met g n:=λz=>by rw[Qs z]at h;omega
   rw[Qo ni]at h;have old:=ih.mp (by omega);have no:∀j,j<n->g j≠g n:=λj hj z=>ni ((lc g _ n).mpr ⟨j,hj,z⟩);intro i j hi hj hg;rcases Nat.lt_succ_iff_lt_or_eq.mp hi with a|a <;> rcases Nat.lt_succ_iff_lt_or_eq.mp hj with b|b
   ·exact old i j a b hg
   ·subst b;exact absurd hg (no i a)
   ·subst a;exact absurd hg.symm (no j b)
   omega
  intro h;have old:=ih.mpr λi j a b=>h i j (by omega) (by omega)
  have ni:g n∉met g n:=λz=>by
   obtain⟨j,hj,q⟩:=(lc g _ n).mp z;have:=h j n (by omega) (by omega) q;omega
  rw[e,Qo ni];omega
end LS
namespace L2
open PySem
theorem lX {ts:List Str}:oF ts=ts.length↔ts.Nodup:=by
 unfold oF List.Nodup;rw[LS.m9,List.pairwise_iff_getElem];have at_:∀(i:Nat) (hi:i<ts.length),ts.getD i Str.empty=ts[i]:=λi hi=>by rw[Qx,Qe hi];rfl
 constructor
 ·intro h i j hi hj hij hq;have:=h i j hi hj (by rw[at_ i hi,at_ j hj,hq]);omega
 intro h i j hi hj hg;rw[at_ i hi,at_ j hj]at hg;by_cases a:i<j
 ·exact absurd hg (h i j hi hj a)
 by_cases b:j<i
 ·exact absurd hg.symm (h j i hj hi b)
 omega
end L2
namespace L2
open PySem PySem.Spec PyProof.Rows
section
variable {K:PySem.W.Frag} {g:TG} {te:TE} {σ0:St} {QD:Hp->Prop} {H1:Hp} {D:Addr}
theorem vZ {a:Addr} {xs:List V} (Pv:Nat->Hp->List V->Prop) (h0:Pv 0 (upd H1 D (.lst [])) []) (hD:∀i H ys,Pv i H ys->H D=some (.lst ys)/\SqT K H a xs)
  (hs:∀i x H ys,xs[i]?=some x->Pv i H ys->g x σ0 H λσ2 H2=>wk σ0 σ2/\f6 σ2 H2 λb H3=>if b=true then te σ2 H3 (c8 Pv xs.length D i ys) else ∃m',m'<xs.length-i/\(m'=xs.length-(i+1)/\i+1<=xs.length/\Pv (i+1) H3 ys)) (hd:∀H ys,Pv xs.length H ys->QD H) :
  ∃W:Nat->Nat->Hp->List V->Prop,(∃m,W 0 m (upd H1 D (.lst [])) [])/\∀i m H ys,W i m H ys->H D=some (.lst ys)/\(((Itt K a).stop i H/\QD H)\/((Itt K a).go i H/\∀x H',(Itt K a).yld i H x H'->g x σ0 H' λσ2 H2=>wk σ0 σ2/\f6 σ2 H2 λb H3 =>
   if b=true then te σ2 H3 λv H4=>H4 D=some (.lst ys)/\ys.length<sizeLine/\∃m',m'<m/\W (i+1) m' (upd H4 D (.lst (ys++[v]))) (ys++[v]) else ∃m',m'<m/\W (i+1) m' H3 ys)):=by
 refine⟨λi m H ys=>m=xs.length-i/\i<=xs.length/\Pv i H ys,⟨xs.length,by simp,QR _,h0⟩,?_⟩;rintro i m H ys ⟨rfl,hi,p⟩;obtain⟨d1,d2⟩:=hD i H ys p;refine⟨d1,?_⟩;by_cases hlt:i<xs.length
 ·refine .inr ⟨⟨xs,xs[i],d2,by simp[hlt]⟩,λx H' y=>?_⟩;obtain⟨e,y⟩:=y;subst e;exact hs i x _ ys (y xs d2) p
 have e:i=xs.length:=by exact om0 hi hlt
 subst e;exact .inl ⟨⟨xs,d2,Qg _⟩,hd H ys p⟩
end
end L2
namespace L2
open PySem PySem.Spec PyProof.Rows
open AutoSeq1 (wpAny_loadPart')
section
variable {P:Program} {w:World} {A:Around} {E:B0} {s:Shared}
end
end L2
namespace L2
open PySem PySem.Spec PyProof.Rows
section
variable {P:Program} {w:World} {A:Around} {E:B0} {s:Shared}
end
end L2
namespace L2
open PySem PySem.Spec PyProof.Rows PySem.SeqAt PySem.MeetsSeq
open PySem.AutoSeq1 (wpAny_loadPart')
section
variable {X:Cx}
end
end L2
namespace XE
open PySem
open Sem (wp)
structure XN (fs:B3) (e T:Addr) (oe:Obj) (h h':Heap):Prop where
 keep:∀b o,b≠e->b∉fs->h.get? b=some o->h'.get? b=some o
 slot:∀b o,b≠e->h.get? b=some o->∃sl,h'.get? b=some { o with slots:=sl }
 at_:h'.get? e=some (oe.mapFields (·.setIfInBounds 1 (.ref T)))
 new:h.get? T=none
section
variable {M:Model} {A:Around} {E:B0} {s:Shared}
structure Tr (e T:Addr) (h:Heap):Prop where
 ex:∃oe vs oT ts,h.get? e=some oe/\oe.data=.fields vs/\vs[1]?=some (.ref T)/\h.get? T=some oT/\oT.data=.fields ts/\ts[3]?=some .none
 ne:T≠e
structure XL (fs:B3) (e:Addr) (Ts:B3) (h h':Heap):Prop where
 keep:∀b o,b≠e->b∉Ts->b∉fs->h.get? b=some o->h'.get? b=some o
 slot:∀b o,b≠e->b∉Ts->h.get? b=some o->∃sl,h'.get? b=some { o with slots:=sl }
 at_:∀oe,h.get? e=some oe->∃oe',h'.get? e=some oe'/\oe'.cls=oe.cls/\oe'.dict=oe.dict
end
end XE
namespace XE
open PySem
abbrev k9 (C p:Addr):Obj:={ cls:=.ref C,data:=.fields #[.ref p,.none,.none,.none,.bool false,.none] }
structure XC (g:Heap) (C:Addr) (B new:String) (up top:List Value):Prop where
 obj:∃nm q N bs hd sn sub ab col dd a0 a1 a2 a3 a5,g.get? C=some (excClassObj nm q C N bs up hd sn sub ab col dd a0 a1 a2 a3 a5 new)
 tail:OwnTail g top up
theorem XC.keeps {g g':Heap} {C:Addr} {B new:String} {up top:List Value} (x:XC g C B new up top) (k:∀b o,g.get? b=some o->g'.get? b=some o):XC g' C B new up top:=by
 obtain⟨a1,a2,a3,a4,a5,a6,a7,a8,a9,a10,a11,a12,a13,a14,a15,e⟩:=x.obj;exact⟨⟨a1,a2,a3,a4,a5,a6,a7,a8,a9,a10,a11,a12,a13,a14,a15,k _ _ e⟩,x.tail.keeps k⟩
section
variable {P:Program} {w:World} {A:Around} {E:B0} {g:Heap} {gs:Array GenState} {dr:Drawn} {tk:Nat} {os:OsState} {C:Addr} {B new init:String} {up top:List Value}
end
end XE
set_option maxHeartbeats 1000000
namespace XE
open PySem PySem.W PySem.Calls PyProof.Rows Builtin Builtin.ObjectAttr
abbrev yB:List Value:=[.type "ValueError", .type "Exception", .type "BaseException", .type "object"]
structure XKl (K:Frag) (C NE:Addr):Prop where
 mr:((clsIn K C).any λcd=>cd.mro==.ref C::.ref NE::yB)=true
 ga:findIn K (.ref C) "__getattribute__" = some (some (.builtin "BaseException.__getattribute__"))
 gh:findIn K (.ref C) "__getattr__" = some none
 sb:subIn K (.ref C) (.type "BaseException")=some true
 hd:hasDictIn K C=true
 cl:findIn K (.ref C) "__class__" = some (some (.builtin "object.__class__"))
 cg:specialIn K (.builtin "object.__class__") "__get__" = some (some (.builtin "getset_descriptor.__get__"))
 ct:takesIn K (.builtin "object.__class__")=some true
 ob:mroIn K C (.type "object")=some true
 sa:findIn K (.ref C) "__setattr__" = some (some (.builtin "object.__setattr__"))
section
variable {P:Program} {w:World} {A:Around} {E:B0} {R:Result->Shared->Prop} {s:Shared} {K:Frag} {x C NE:Addr} {ox:Obj} {od:Option Obj} {name:Str}
end
end XE
namespace L2
open PySem PySem.Spec PyProof.Rows PySem.Calls
def XOk (e C:Addr) (d:Option Addr) (fresh:Bool) (h:Heap):Prop:=∃o vs,h.get? e=some o/\o.cls=.ref C/\o.dict=d/\o.data=.fields vs/\(fresh=true->∃t,vs=#[.ref t,.none,.none,.none,.bool false,.none])
abbrev XO (e C:Addr) (d:Option Addr) (fresh:Bool):HO:=.ext (XOk e C d fresh)
section
variable {P:Program} {w:World} {H H1 H2:Hp} {h h1 h2:Heap} {a e C L:Addr} {d:Option Addr} {b:Bool} {o u:HO} {fs Ts:B3}
theorem be.there (x:be P w H h a o):∃u,h.get? a=some u:=by
 induction o with
 | lst xs=>obtain⟨_,_,_,_,e⟩:=x;exact⟨_,e⟩
 | tup xs=>obtain⟨_,_,_,_,e,_⟩:=x;exact⟨_,e⟩
 | dK kvs=>obtain⟨_,_,_,_,o,_,_,e,_⟩:=x;exact⟨_,e⟩
 | dT kvs=>obtain⟨_,_,_,_,o,_,_,e,_⟩:=x;exact⟨_,e⟩
 | set S n=>obtain⟨o,_,_,_,e,_⟩:=x;exact⟨_,e⟩
 | ins C dx fs=>obtain⟨_,_,_,e,_⟩:=x;exact⟨_,e⟩
 | own y=>obtain⟨_,e⟩:=x;exact⟨_,e⟩
 | xd fs=>obtain⟨_,⟨_,_,_,e,_⟩,_⟩:=x;exact⟨_,e⟩
 | rng lo hi=>obtain⟨_,_,_,e⟩:=x;exact⟨_,e⟩
 | frz ob u ih=>obtain⟨e,_⟩:=x;exact⟨_,e⟩
 | tbl ps=>exact⟨_,(show h.get? a=some _ from x)⟩
 | met f y=>exact⟨_,(show h.get? a=some _ from x)⟩
 | ext φ=>obtain⟨_,e,_⟩:=x;exact e
end
noncomputable def CX1 (P:Program) (w:World):CXT:=λouter H s E ev s'=>∃(e C T:Addr) (d:Option Addr) (H':Hp),ev=.ref e/\s'.os=s.os/\AllBare s'.gens/\Un (frs outer) [] H H' s.heap s'.heap/\HOk P w H' s'.heap /\
 H' e=some (XO e C d false)/\s.heap.get? T=none/\H' T=none/\XE.Tr e T s'.heap/\E (.ref C) (some e) H'
section
variable {P:Program} {w:World} {K:PySem.W.Frag} {mg:B2} {base:Heap} {N:List Str} {qual:Str} {scope:Scope} {f:Addr} {cd:Value} {A:Around} {outer:List Env} {s s1:Shared} {H H1:Hp} {E:XK} {pins:B1} {U:St} {e C:Addr} {d:Option Addr}
end
section
variable {X:Cx} {pins:B1} {U:St} {H:Hp} {s:Shared}
abbrev Cx.marked (X:Cx) (e:Addr):Cx:={ X with A:=X.A.mark (some (.ref e)),calm:=false,xe:=λ_ _=>False }
theorem Inv.mark (I:Inv X pins U H s) (e:Addr):Inv (X.marked e) pins U H s :=
 ⟨⟨I.ok.mod,I.ok.kind,I.ok.glob,I.ok.blt,I.ok.above,I.ok.inj,I.ok.has,I.ok.cab,(λz=>by cases z),I.ok.frames,I.ok.stk,I.ok.exf,I.ok.bs,I.ok.bsz,I.ok.noex,I.ok.exfs,I.ok.funs,I.ok.frf⟩,I.os,I.bare,I.base,I.loc,I.cell,I.free,I.freeC,I.pin,I.hok,I.len⟩
end
section
variable {X:Cx}
structure XMk (K:PySem.W.Frag) (C NE:Addr):Prop where
 xc:∀h:Heap,K.In h->XE.XC h C "ValueError" "ValueError.__new__" (.ref NE::XE.yB) XE.yB
 kp:PySem.W.keepIn K (.ref C)=true
 kl:XE.XKl K C NE
end
section
variable {X:Cx}
end
end L2
namespace XE
open PySem PySem.W PySem.Calls PyProof.Rows
section
variable {P:Program} {w:World} {A:Around} {E:B0} {g:Heap} {gs:Array GenState} {dr:Drawn} {tk:Nat} {os:OsState} {C:Addr} {B new init:String} {up top:List Value}
end
section
variable {P:Program} {w:World} {A:Around} {E:B0} {s:Shared} {K:Frag} {x C NE:Addr} {ox:Obj} {od:Option Obj}
end
end XE
namespace L2
open PySem PySem.Spec PyProof.Rows PySem.Calls
section
variable {X:Cx}
end
section
variable {P:Program} {w:World} {K:PySem.W.Frag} {mg:B2} {base:Heap} {N:List Str} {qual:Str} {scope:Scope} {f:Addr} {cd:Value} {A:Around} {outer:List Env} {s:Shared} {H:Hp} {E:XK}
end
section
variable {X:Cx}
def XP (X:Cx) (pins:B1) (U:St) (E:XK) (ev:Value) (s':Shared):Prop:=∃H1 s1,Inv X pins U H1 s1/\CX1 X.prog X.w X.stack H1 s1 E ev s'
end
end L2
set_option maxHeartbeats 4000000
namespace L2
open PySem PySem.Spec PyProof.Rows
section
variable {X:Cx}
theorem jH:∀{ys:List Str} {us:List Value},StrsAre us ys->aQ (ys.map V.str) us
 | _,_,.nil=>.nil
 | _,_,.cons x t h=>.cons ⟨t,rfl⟩ (jH h)
def wv:List V->Hp->VK->Prop:=λxs H Q=>∃(l:Addr) (ss:List Str),xs=[.ref l]/\H l=some (.lst (ss.map V.str))/\ss.length<64/\∀p ss',H p=none->ss'.Perm ss->sortedS ss'=true->Q (.ref p) (upd H p (.lst (ss'.map V.str)))
theorem oi:dG X (.builtin "sorted") wv:=by
 intro pins s U H xs us Q I r h;obtain⟨l,ss,rfl,hH,hz,q⟩:=h;obtain⟨u,rfl,ru⟩:=cZ r;cases ru;obtain⟨z,its,n,r,hl,e⟩:=I.lstM hH;have sa:=eA r;rw[Qb]at hl z;refine sorted_strs ⟨_,e,rfl,n,rfl⟩ sa (by omega) λout ss' so pm st=>?_;have vo:=jH so;have lo:ss'.length=ss.length:=pm.length_eq;obtain⟨en,at'⟩:=sortedAll_at s.heap its out;have hle:s.heap.objs.size<=s.heap.objs.size+1:=X3 _;refine⟨.ref (s.heap.objs.size+1),_,I.laid (o:=.lst (ss'.map V.str)) (t':=s.toks) (λ_ _ g=>sortedAll_old g) hle ⟨by rw[Qb];omega,out.toList,en,vo,at'⟩,rfl,q _ ss' (I.hok.fresh hle) pm st⟩
end
end L2
namespace LY
open PySem LZ
section
variable {prog:Program} {w:World} {A:Around} {E:B0} {s:Shared}
end
structure ApartM (z TI TO i1 i2 l m d:Addr):Prop extends ApartD z TI TO i1 i2 l d where
 mz:m≠z
 mTO:m≠TO
 mi1:m≠i1
 mi2:m≠i2
 dm:d≠m
structure ZS (h:Heap) (z TI TO i1 i2 l d:Addr) (m:Addr) (xs ys:Array Value) (k:Nat):Prop where
 zf:(IsZ h z TI TO .none false/\∃a b,IsPair h TO a b)\/∃(T:Addr) (f1:Bool) (oT:Obj),IsZ h z TI TO (rawInt (T:Nat)) f1/\h.get? T=some oT/\T≠z/\T≠i1/\T≠i2/\T≠d
 ti:IsPair h TI (.ref i1) (.ref i2)
 a1:h.IsListIter i1 l k
 a2:h.IsListIter i2 m k
 li:h.IsList l xs
 mi:h.IsList m ys
section
variable {prog:Program} {w:World} {K:Type} [DecidableEq K] {knd:KeyKind prog w K} {A:Around} {R:Result->Shared->Prop}
end
end LY
namespace L2
open PySem PySem.Spec PyProof.Rows
section
variable {X:Cx} {elts:List Expr} {k:Nat} {tpos:Pos}
end
section
variable {X:Cx}
end
section
variable {X:Cx}
def lZ (ta:TA):TE:=λU H Q=>ta U H λvs H1=>∃(n:Nat),vs=[.int (n:Int)]/\n<=1000/\∀l,H1 l=none->Q (.ref l) (upd H1 l (.lst ((List.range n).map λ(i:Nat)=>V.int (i:Int))))
theorem o_ {a:Expr} {ta:TA} {p1 p2 pos1 pos2:Pos} (hc:X.calm=true) (hg:Gl X "list") (hm:X.mg "list" = none) (hg2:Gl X "range") (hm2:X.mg "range" = none) (ha:PA X [a] ta)
  (hs:starEach [a] X.env=[(false,eval a X.env)]:=by rfl)
  (hs0:starEach [.Call (.Name "range" p2) [a] [] pos2] X.env=[(false,eval (.Call (.Name "range" p2) [a] [] pos2) X.env)]:=by rfl) :
  PE X (.Call (.Name "list" p1) [.Call (.Name "range" p2) [a] [] pos2] [] pos1) (lZ ta):=by
 intro pins s U H Q I h;refine Call_ (cL I hg hm PyProof.Rows.boot_list (Xd ?_ hs0 rfl));rw[hs0];show wpAny _ _ (spliced [(false,eval (.Call (.Name "range" p2) [a] [] pos2) X.env)]) _ _ s;refine XI ?_;refine Call_ (cL I hg2 hm2 boot_range (Xd (thn (ha pos2 pins s U H _ I h) λws s1 ⟨vs,H1,I1,r1,q1⟩=>?_) hs rfl));obtain⟨n,e,hn,q⟩:=q1;subst e;obtain⟨u1,e,t',ru1⟩:=cZ r1;subst e ru1;refine call_range_1 ?_;refine Calls.spliced_nil ?_;have I2:Inv X pins U H1 { s1 with heap:=s1.heap.push { cls:=.type "range", data:=.fields #[.int 0 s1.toks,.int n t',.int 1 (s1.toks+1)] },toks:=s1.toks+1+1 }:=I1.kept λb o e=>Qc _ e;have hr:IsRange (s1.heap.push { cls:=.type "range", data:=.fields #[.int 0 s1.toks,.int n t',.int 1 (s1.toks+1)] }) s1.heap.objs.size 0 n 1 s1.toks t' (s1.toks+1):=IsRange.new ..;refine call_list_range (n:=n) (I2.ok.hd hc) hr (small_one (by omega) (by omega) (by omega) (by omega)) (by rw[rangeSize_one];split <;> omega) (by omega) λh' tk acc' c' hk hS' hacc=>?_
 have r:aQ ((List.range n).map λ(i:Nat)=>V.int (i:Int)) acc'.toList:=by
  refine paired_get (by rw[Qb,List.length_range,Qi,hacc.1]) λj x y e1 e2=>?_;obtain⟨t2,e3⟩:=hacc.2 j y (by simpa using e2);rw[Qp]at e1
  cases e4:(List.range n)[j]? with
  | none=>rw[e4]at e1;cases e1
  | some j' =>
  rw[e4]at e1;cases e1
  have:j'=j:=by
   have:=Qd.mp e4;obtain⟨h1,h2⟩:=this;rw[List.getElem_range]at h2;exact h2.symm
  subst this;exact⟨t2,by rw[e3];simp⟩
 have big:1000<sizeLine:=by decide
 exact⟨.ref _,_,I2.laid (t':=tk) hk (Qg _) (show be X.prog X.w _ h' _ (.lst _) from⟨by rw[Qb,List.length_range];omega,acc'.toList,c',r,by simpa using hS'⟩),rfl,q _ (I2.hok.fresh (Qg _))⟩
end
end L2
namespace K2
open PySem L2
abbrev IvF:=Nat->St->Hp->Prop
abbrev IvC:=Nat->Hp->List V->Prop
abbrev IvJ:=St->Hp->Prop
variable {X:Cx}
theorem de {K:PySem.W.Frag} (h:X.K=K):IxR X (uu K):=by subst h;exact aA
variable {H H' H1 H2:Hp} {U:St} {td ty tx tv tl:TE}
theorem xn {Q:VK} (q:td U H λx H1=>∃a,x=.ref a/\IsD H1 a/\ty U H1 λy H2=>tx U H2 λz H3=>∃kvs k,H3 a=some (.dK kvs)/\y=kV k/\(∀v,aU kvs k=some v->Q v H3)/\(aU kvs k=none->kvs.length<sizeLine/\Q z (upd H3 a (.dK (bv kvs k z))))):tP td ty tx U H Q:=q
theorem fT {D:Ends} (q:tv U H λv H1=>td U H1 λx H2=>ty U H2 λy H3=>∃a H4,x=.ref a/\gD H3 a y v H4/\D.nx U H4):yb td ty tv D U H:=q
theorem nJ {Q:VK} (q:ty U H λy H1=>td U H1 λx H2=>∃a o,x=.ref a/\cF H2 a y o/\Q (.bl (!o.isSome)) H2):qt ty td U H Q:=q
theorem xp {Q:VK} (q:td U H λx H1=>∃a,x=.ref a/\IsD H1 a/\ty U H1 λy H2=>∃o,cF H2 a y o/\Q (o.getD .non) H2):tR td ty U H Q:=q
theorem ya {t:TS} {D:Ends} {a:Addr} {u:HO} (r:Rd H a u) (f:Fz u) (q:∀o,t (xP D H a o u) U (upd H a (.frz o u))):Aa t D U H:=⟨a,u,r,f,q⟩
theorem qI {R:It->Hp->Prop} (q:tl U H λx H1=>∃a o kvs,x=.ref a/\H1 a=some (.frz o (.dK kvs))/\R (Itd a o kvs) H1):vL tl U H R:=q
theorem lJ {K:PySem.W.Frag} (h:X.K=K):dG X (.builtin "isinstance") (λxs H Q=>∃x T ty b,xs=[x,.ty T]/\TyOf K H x ty/\PySem.W.kitOne K ty (.type T)=some b/\Q (.bl b) H):=by subst h;exact bE
structure Txt (K:PySem.W.Frag) (mg:B2) (TT:Addr):Prop where
 n_len:mg "len" = none
 n_range:mg "range" = none
 n_max:mg "max" = none
 n_min:mg "min" = none
 n_int:mg "int" = none
 n_list:mg "list" = none
 n_str:mg "str" = none
 n_isinstance:mg "isinstance" = none
 n_all:mg "all" = none
 n_set:mg "set" = none
 n_dict:mg "dict" = none
 n_enumerate:mg "enumerate" = none
 n_sorted:mg "sorted" = none
 n_tuple:mg "tuple" = none
 n_bool:mg "bool" = none
 n_zip:mg "zip" = none
 n_reversed:mg "reversed" = none
 lETTERS:∃t,mg "LETTERS" = some (.str "abcdefghijklmnopqrstuvwxyz" t)
 mLETTERS:∃t,mg "MOST_LETTERS" = some (.int 8 t)
 mINPUTS:∃t,mg "MOST_INPUTS" = some (.int 4 t)
 mGATES:∃t,mg "MOST_GATES" = some (.int 7 t)
 mNODES:∃t,mg "MOST_NODES" = some (.int 40 t)
 sA:∃a,mg "SIGNS_AHEAD" = some (.ref a)/\ix K a [("+", .flat (.str "0")),("-", .flat (.str "1"))]
 tURNED:mg "TURNED" = some (.ref TT)
 tab:ix K TT [("0", .flat (.str "1")),("1", .flat (.str "0"))]
structure Dk where
 d:Addr
 n:Nat
def Dk.more (D:Dk) (k:Nat):Dk:=⟨D.d,D.n+k⟩
def Dk.own (D:Dk) (b:Addr):Prop:=b=D.d
def Dk.At (D:Dk) (H:Hp):Prop:=∃a b c:Int,H D.d=some (.lst [.int a,.int b,.int c])/\0<=c/\c<=(D.n:Int)
structure Kp (D:Dk) (H H':Hp):Prop where
 old:∀b o,H b=some o->¬D.own b->H' b=some o
 dk:D.At H'
def gF:Sp:=λvs H Q _=>∃(D:Dk) (m:Int),vs=[.ref D.d,.int m]/\D.At H/\D.n<100000/\1<=m/\m<=100000/\∀(r:Int) H',0<=r->r<m->Kp (D.more 1) H H'->Q (.int r) H'
theorem ym {D:Dk} {a b c:Int} (h0:0<=c) (h1:c<=(D.n:Int)):Kp D H (upd H D.d (.lst [.int a,.int b,.int c])):=⟨λb o e nb=>by rw[ah nb];exact e,⟨_,_,_,af,h0,h1⟩⟩
def bh (H H':Hp):Prop:=∀b xs,H b=some (.tup xs)->H' b=some (.tup xs)
theorem aj.tups (S:aj H H'):bh H H':=λb xs e=>S b _ e
variable {D D':Dk}
theorem Dk.At.same {H':Hp} (S:aj H H') (h:D.At H):D.At H':=let ⟨a,b,c,e,l⟩:=h;⟨a,b,c,S _ _ e,l⟩
theorem Kp.of {D:Dk} (h:D.At H) (S:aj H H'):Kp D H H':=⟨λb o e _=>S b o e,h.same S⟩
theorem Kp.trans (a:Kp D H H1) (b:Kp D' H1 H2) (e:D.d=D'.d:=by rfl):Kp D' H H2:=⟨λc o h n=>b.old c o (a.old c o h (by unfold Dk.own at n ⊢;rw[e];exact n)) n,b.dk⟩
theorem Dk.At.le (a:D.At H) (l:D.n<=D'.n) (e:D.d=D'.d:=by rfl):D'.At H:=by
 obtain⟨x,y,z,h,h0,h1⟩:=a;exact⟨x,y,z,by rw[<-e];exact h,h0,by omega⟩
theorem Kp.le (a:Kp D H H') (l:D.n<=D'.n) (e:D.d=D'.d:=by rfl):Kp D' H H':=⟨λc o h n=>a.old c o h (by unfold Dk.own at n ⊢;rw[e];exact n),a.dk.le l e⟩
variable {o:HO} {b L l:Addr}
theorem iS {D:Dk} (DA:D.At H) (h:H b=some o) (hi:∀xs,o=.lst xs->∀i:Int,V.int i∉xs):¬D.own b:=by
 obtain⟨x,y,z,e,_⟩:=DA;intro q;cases q;rw[e]at h;exact hi _ (QF h).symm x (by simp)
theorem Kp.tups {D:Dk} (DA:D.At H) (k:Kp D H H'):bh H H':=λb xs e=>k.old b _ e (iS DA e (λ_ z=>nomatch z))
theorem pA (ns:List Str):∀i:Int,V.int i∉ns.map V.str:=λi h=>by
 obtain⟨x,_,e⟩:=Qm.mp h;cases e
theorem pB {xs:List V} (h:∀x∈xs,∃a,x=V.ref a):∀i:Int,V.int i∉xs:=λi hi=>by
 obtain⟨a,e⟩:=h _ hi;cases e
theorem Kp.fresh {o:HO} (DA:D.At H) (hL:H L=none) (k:Kp D H H'):Kp D H (upd H' L o):=by
 obtain⟨a0,b0,c0,e0,_⟩:=DA;obtain⟨a,b,c,e,l⟩:=k.dk;exact⟨λb u e nb=>by rw[ah (ao e hL)];exact k.old b u e nb,⟨a,b,c,by rw[ah (ao e0 hL)];exact e,l⟩⟩
theorem Kp.new {p:Addr} (k:Kp D H H') (hp:H' p=none):Kp D H (upd H' p o):=k.trans (Kp.of k.dk (aw hp))
theorem Kp.free (k:Kp D H H') (h:H' l=none):H l=none:=by
 cases e:H l with
 | none=>rfl
 | some o =>
 exfalso;by_cases c:D.own l
 ·obtain⟨a,b,z,q,_⟩:=k.dk;cases c;rw[q]at h;cases h
 rw[k.old l o e c]at h;cases h
theorem aV {D:Dk} {p:Addr} (DA:D.At H) (hp:H p=none):¬D.own p:=λz=>by
 obtain⟨a,b,c,e,_⟩:=DA;cases z;rw[e]at hp;cases hp
structure StOk (n:Nat) (z:Str):Prop where
 len:z.cps.size=n
 signs:∀c∈z.cps.toList,c=48\/c=49
variable {es a:List Expr}
theorem fo {K:PySem.W.Frag} {k:Nat} {t:TGs} {n:Nat} {pos:Pos} (hK:X.K=K) (hc:X.calm=true) (h:PGs X es t)
  (hn:(assignEach es X.env).length=n:=by rfl) (hst:(assignEach es X.env).findIdx? (·.1)=none:=by rfl):PG X (.Tuple es k pos) (AW K n t):=by subst hK;exact dQ hc h hn hst
theorem cT {A B:TS} {D:Ends} (J:St->Hp->Prop) (h:∀(R:St->Hp->Prop),(∀U H,J U H->R U H)->A { D with nx:=R } U H) (hJ:∀U H,J U H->B D U H):wf A B D U H:=h (B D) hJ
variable {env:Env}
theorem se_tup {n:Nat} {p:Pos}:starEach (.Tuple a n p::es) env=(false,eval (.Tuple a n p) env)::starEach es env:=by rfl
theorem se_lst {p:Pos}:starEach (.List a p::es) env=(false,eval (.List a p) env)::starEach es env:=by rfl
theorem se_call {f:Expr} {k:List Keyword} {p:Pos}:starEach (.Call f a k p::es) env=(false,eval (.Call f a k p) env)::starEach es env:=by rfl
theorem aP {c:Const} {n:Nat} {p:Pos}:starEach (.Constant c n p::es) env=(false,eval (.Constant c n p) env)::starEach es env:=by rfl
theorem ad {x:Str} {p:Pos}:starEach (.Name x p::es) env=(false,eval (.Name x p) env)::starEach es env:=by rfl
theorem se_bin {a b:Expr} {o:Operator} {p:Pos}:starEach (.BinOp a o b p::es) env=(false,eval (.BinOp a o b p) env)::starEach es env:=by rfl
theorem se_sub {a b:Expr} {p:Pos}:starEach (.Subscript a b p::es) env=(false,eval (.Subscript a b p) env)::starEach es env:=by rfl
theorem aJ {a:Addr} (h1:H a=some o) (h2:H b=none):b≠a:=λz=>by rw[z,h1]at h2;cases h2
theorem ba {α β:Type} {F:α->β->Prop}:∀{xs:List α} {ys:List β} {x:α} {y:β},Paired F xs ys->F x y->Paired F (xs++[x]) (ys++[y])
 | _,_,_,_,.nil,h=>.cons h .nil
 | _,_,_,_,.cons h t,g=>.cons h (ba t g)
theorem ag {α β:Type} {F G:α->β->Prop} (h:∀a b,F a b->G a b):∀{xs:List α} {ys:List β},Paired F xs ys->Paired G xs ys
 | _,_,.nil=>.nil
 | _,_,.cons a t=>.cons (h _ _ a) (ag h t)
theorem paired_get {α β:Type} {F:α->β->Prop}:∀{xs:List α} {ys:List β} {i:Nat} {x:α},Paired F xs ys->xs[i]?=some x->∃y,ys[i]?=some y/\F x y
 | _,_,_,_,.nil,e=>by simp at e
 | _,_,0,_,.cons r _,e=>by simp at e;subst e;exact⟨_,rfl,r⟩
 | _,_,i+1,x,.cons _ t,e=>by
  obtain⟨u,h1,h2⟩:=paired_get (i:=i) (x:=x) t (by simpa using e);exact⟨u,by simpa using h1,h2⟩
theorem bg {α β:Type} {F:α->β->Prop}:∀{xs:List α} {ys:List β} {i:Nat} {y:β},Paired F xs ys->ys[i]?=some y->∃x,xs[i]?=some x/\F x y
 | _,_,_,_,.nil,e=>by simp at e
 | _,_,0,_,.cons r _,e=>by simp at e;subst e;exact⟨_,rfl,r⟩
 | _,_,i+1,y,.cons _ t,e=>by
  obtain⟨u,h1,h2⟩:=bg (i:=i) (y:=y) t (by simpa using e);exact⟨u,by simpa using h1,h2⟩
theorem ifT {c:Bool} {A B:Prop} (hc:c=true) (h:A):if c=true then A else B:=by rw[Qs hc];exact h
theorem ifF {c:Bool} {A B:Prop} (hc:c=false) (h:B):if c=true then A else B:=by subst hc;exact iteF h
theorem bu {D:Addr} (S:aj H H') (hD:H D=none):aj H (upd H' D o):=λb u e=>by rw[ah (ao e hD)];exact S b u e
theorem ak {p:Addr} (h:H p=none) (e:upd H p o=H'):aj H H'/\H' p=some o:=by
 subst e;exact⟨aw h,af⟩
theorem av {α β:Type} {F:α->β->Prop}:∀{xs:List α} {ys:List β},Paired F xs ys->xs.length=ys.length
 | _,_,.nil=>rfl
 | _,_,.cons h t=>by simp[av t]
theorem k6 {K:PySem.W.Frag} (h:X.K=K) (hu:X.A.units+64<cLine):OpR X (compareOp .Eq) (r_ K false):=by subst h;exact gP hu
theorem wC {K:PySem.W.Frag} (h:X.K=K) (hu:X.A.units+64<cLine):OpR X (compareOp .In) (yT K false):=by subst h;exact zc hu
end K2
namespace K2
open PySem L2
abbrev SqLofQ:=@SqL.of
abbrev i_consQ:=@aY
abbrev i_nilQ:=@aZ
abbrev i_varQ:=@aE
abbrev iteTQ:=@cu
abbrev pa_consQ:=@aa
abbrev pa_nilQ:=@ac
abbrev pe_intQ:=@ae
abbrev pe_strQ:=@bj
abbrev pss_consQ:=@aK
abbrev pss_oneQ:=@aI
abbrev s_nameQ:=@az
abbrev se_conQ:=@aP
abbrev se_nameQ:=@ad
local macro_rules | `(tactic| walk_at "vc") => `(tactic| first
 | ((refine' (?zz : (?zA → ?zG) → ?zA → ?zG) ?zr ?_); (case zr => with_reducible exact s_seqT); (case zz => exact fun _ q => q); intro D') | ((refine' (?zz : (?zA → ?zG) → ?zA → ?zG) ?zr ?_); (case zr => with_reducible first | exact s_asg | exact s_drop | exact s_ret | exact s_if | exact s_sub | exact s_next | exact i_c | exact i_op | exact i_test | exact i_tB | exact i_and | exact i_or | exact i_not | exact i_andV | exact i_orV | exact i_notV | exact i_ifE | exact i_nilQ | exact i_consQ | exact i_cb | exact i_tup | exact i_lst | exact i_bm | exact i_sl | exact i_nopart | exact i_part | exact s_for | exact s_rng1 | exact s_list | exact s_str | exact i_dget | exact i_yes | exact i_un); (case zz => exact fun _ q => q))   | (with_reducible refine s_nameQ ?_)
 | ((with_reducible refine' i_varQ ?hv ?_); (case hv => exact rfl))   | (with_reducible first | refine i_rI0 ?_ | refine i_call ?_ | refine s_strI ?_ | refine iteF ?_ | refine iteTQ ?_ | refine i_rU ?_)
 | ((with_reducible show ∃ i, V.int _ = V.int i ∧ _); (refine ⟨_, rfl, ?_⟩)) | ((with_reducible show ∃ k, V.bl _ = V.bl k ∧ _); (refine ⟨_, rfl, ?_⟩)) | ((with_reducible show (∃ i, [V.bl _] = [V.int i] ∧ _) ∨ _); (refine Or.inr ⟨_, rfl, ?_⟩))
 | ((with_reducible refine' i_ixL ?ha ?hb ?_); (case ha => exact SqLofQ (by assumption)); (case hb => exact rfl)) | ((with_reducible refine' i_ixT ?ha ?hb ?_); (case ha => assumption); (case hb => exact rfl))
 | ((with_reducible show ∃ p _, [V.ref _] = [V.ref p] ∧ (SqL _ _ _ _ ∨ SqT _ _ _ _) ∧ _); (refine' ⟨_, _, rfl, Or.inl (SqLofQ ?ha), ?_⟩); (case ha => assumption)) | ((with_reducible refine' s_setL ?ha ?hb ?_); (case ha => assumption); (case hb => exact rfl))
 | ((with_reducible refine' i_eq ?ha ?_); (case ha => exact rfl)) | ((with_reducible refine' i_ne ?ha ?_); (case ha => exact rfl))
 | ((with_reducible show ∃ z, V.str _ = V.str z ∧ _); (refine ⟨_, rfl, ?_⟩))
 | ((with_reducible refine' i_rI ?hv ?_); (case hv => first | decide | (dsimp only; omega) | exact .inl ⟨by omega, by omega⟩ | exact .inr ⟨by omega, by omega⟩ | exact ⟨by decide, by decide⟩ | exact ⟨by decide, by decide, by decide⟩ | exact ⟨by omega, by omega⟩))
 | ((with_reducible show ∃ i, [V.int _] = [V.int i] ∧ _); (refine ⟨_, rfl, ?_⟩))
 | ((with_reducible show tyV _ "list" _ _ ∧ _); (refine' ⟨i_tyL ?ha, ?_⟩); (case ha => assumption)))
local macro_rules | `(tactic| walk_at "p") => `(tactic| repeat' (with_reducible first | (refine' pss_oneQ ?_; rotate_left 1) | (refine' pss_consQ ?_ ?_; rotate_left 2) | exact pss_nil | (refine' ps_if ?_ ?_ ?_; rotate_left 3)))
local macro_rules | `(tactic| walk_at "b") => `(tactic| (refine' pss_consQ ?_ ?_; rotate_left 2; walk_at "p"))
local macro_rules | `(tactic| walk_at "f") => `(tactic| (refine' ps_for PassesOwn.never rfl ?_ ?_ ?_ (fun _ => rfl); rotate_left 3))
local macro_rules | `(tactic| walk_at "q") => `(tactic| repeat' (with_reducible first | exact pe_strQ | exact pe_intQ | exact pa_nilQ | (refine' pe_tup ?_; rotate_left 1) | (refine' pe_lst ?_; rotate_left 1) | (refine' pa_consQ ?_ ?_ se_conQ; rotate_left 2) | (refine' pa_consQ ?_ ?_ se_tup; rotate_left 2) | (refine' pa_consQ ?_ ?_ se_nameQ; rotate_left 2) | (refine' pa_consQ ?_ ?_ se_sub; rotate_left 2) | (refine' pa_consQ ?_ ?_ se_bin; rotate_left 2) | (refine' pa_consQ ?_ ?_ se_lst; rotate_left 2) | (refine' pa_consQ ?_ ?_ se_call; rotate_left 2) | (refine' pa_consQ ?_ ?_ se_lc; rotate_left 2)))
local macro_rules | `(tactic|room) => `(tactic| (intro vs H Q E h; repeat (first | (obtain ⟨e, _⟩ := h; subst e; rfl) | (obtain ⟨_, h⟩ := h))))
local macro_rules | `(tactic|x_go) => `(tactic| ((try dsimp only [cxOf, Cx.nox, Cx.wish]); (conv in (L2.start _ _) => simp only [L2.start, Qw, List.map_nil, XA, List.length_nil, List.replicate_succ, List.replicate_zero, List.cons_append, List.nil_append, Nat.reduceAdd, Nat.reduceSub]); have big : 100000 < sizeLine := by decide))
local macro_rules | `(tactic|kt_k) => `(tactic| (with_reducible first | refine s_seq ?_ | refine s_if ?_ | refine s_next ?_ | refine i_or ?_ | refine s_nameQ ?_ | refine s_ret ?_))
local macro_rules|`(tactic|lk)=>`(tactic|repeat walk_at "vc")
local macro_rules|`(tactic|fin2)=>`(tactic|exact⟨rfl,rfl,rfl,by decide +kernel,rfl,by decide +kernel,by decide +kernel⟩)
def sg (b:Bool):V:=if b then .str "1" else .str "0"
variable {i n c j d:Nat} {z x y wd row:Str}
theorem kO (st:StOk n z) (hi:i<n):f9 z i=sg (z.cps.getD i 0==49):=by
 have hl:=st.len;have e:z.cps.getD i 0=z.cps[i]'(by omega):=by simp[Array.getD,hl,hi]
 have:z.cps.getD i 0=48\/z.cps.getD i 0=49:=by
  rw[e];exact st.signs _ (by simp)
 unfold f9;rcases this with e|e
 ·rw[e];decide +kernel
 rw[e];decide +kernel
def dE (z:Str) (i:Nat):Str:=if (z.cps.getD i 0==49)=true then "0" else "1"
def b_ (z:Str) (i:Nat):Str:=(Txt.slice z none (some (i:Int))++dE z i)++Txt.slice z (some ((i:Int)+1)) none
def iA:Sp:=λvs H Q _=>∃(z:Str) (n i:Nat),vs=[.str z,.int (i:Int)]/\StOk n z/\i<n/\n<=11/\Q (.str (b_ z i)) H
variable {P:Program} {w:World} {K:PySem.W.Frag} {mg:B2} {base:Heap} {TT:Addr}
section
theorem lK {n:Nat} {z:Str} (st:StOk n z) {i:Nat} (hi:i<n):atI z.cps.toList ((i:Nat):Int)=some (z.cps.getD i 0):=by
 have hl:=st.len;refine bK ?_;simp[Array.getD,hl,hi]
theorem kP:FnScope ["standing", "place"] ["standing", "place"] (au (top 12)):=by fin2
theorem sx {f:Addr} {fd:FuncData} (Fu:Fun K "turned_at" "turned_at" (top 12) f fd) (T:Txt K mg TT):FnOk P w K mg base CX0 1 f fd ["standing", "place"] iA:=by
 have S:=kP;refine Fu.ok S (by room) (λcdv A outer s H vs Q E hr h=>?_);obtain⟨z,n,i,rfl,st,hi,hn,k⟩:=h;refine⟨_,(aI (aD (aO bW (aO bW (bU fQ (pv 0) cB (cA (pv 1))) (am (xf T.tab) (c_ (v:=.ref TT) (by rfl) T.tURNED rfl) (am dD (pv 0) (pv 1)))) (bU fQ (pv 0) (cA (aO cD (pv 1) ae)) cB)))),?_⟩;x_go;have hz:z.length=n:=st.len;have big:1000<sizeLine:=by decide
 lk;have s1:=Txt.slice_le z none (some (i:Int));have s2:=Txt.slice_le z (some ((i:Int)+1)) none
 have fl:(dE z i).length=1:=by
  unfold dE
  split
  ·decide +kernel
  decide +kernel
 refine i7 (by omega) ?_;refine i_op (i_c ?_);refine i_op (aE rfl (aE rfl (ff (by omega) (lK st hi) ?_)));have e:=kO st hi;unfold f9 at e;rw[e]
 have step:∀(b:Bool) (G:VK),G (.str (if b=true then "0" else "1")) H->qO TT (.ref TT) (sg b) H G:=λb G g=>by
  cases b
  ·exact⟨rfl,.inl ⟨rfl,g⟩⟩
  exact⟨rfl,.inr ⟨rfl,g⟩⟩
 refine step _ _ ?_;show ∃i_1 j,V.str _=V.str i_1/\V.str (dE z i)=V.str j/\_;have l1:(Txt.slice z none (some (i:Int))++dE z i).length=(Txt.slice z none (some (i:Int))).length+(dE z i).length:=Array.size_append;refine⟨_,_,rfl,rfl,by omega,?_⟩;lk;refine i7 (by omega) ?_;exact⟨_,_,rfl,rfl,by rw[l1];omega,k⟩
end
theorem i9 {xs:Array Nat}:∀(j a:Nat),a+j<=xs.size->((List.range j).map λk=>a+k).filterMap (xs[·]?)=(xs.toList.drop a).take j
 | 0,a,_=>by simp
 | j+1,a,h=>by
  rw[List.range_succ,QI,List.filterMap_append,i9 j a (by omega),XH];have e:(xs.toList.drop a)[j]?=xs[a+j]?:=by rw[List.getElem?_drop];simp
  rw[e];have q:xs[a+j]?=some (xs[a+j]'(by omega)):=by rw[QM]
  simp[q]
theorem iC {a b:Nat} {lo hi:Option Int} (hl:PySem.Builtin.Str.strSliceIndices lo hi 1 z.length=(List.range (b-a)).map λk=>a+k) (hb:b<=z.cps.size) (hab:a<=b):(Txt.slice z lo hi).cps.toList=(z.cps.toList.drop a).take (b-a):=by
 unfold Txt.slice;rw[hl]
 split
 ·rename_i h
  have h:b-a=z.length:=by simpa using h
  have h':z.length=z.cps.size:=rfl;have a0:a=0:=by omega
  subst a0;rw[List.drop_zero,QV (by rw[Qi];omega)]
 exact i9 (b-a) a (by omega)
theorem f8 {z:Str} {j:Nat} (h:j<=z.cps.size):(Txt.slice z none (some (j:Int))).cps.toList=z.cps.toList.take j:=by
 have h':z.length=z.cps.size:=rfl;refine(iC (a:=0) (b:=j) ?_ h (QR _)).trans (by simp);unfold PySem.Builtin.Str.strSliceIndices sliceRange
 have e:max 0 (min (if (j:Int)<0 then (j:Int)+z.length else (j:Int)) (z.length:Int))=(j:Int):=by
  rw[Qo (Int.not_lt.mpr (Int.natCast_nonneg _)),Int.min_eq_left (show _<=(z.length:Int) from Int.ofNat_le.mpr h),Int.max_eq_right (Int.natCast_nonneg _)]
 simp only[show (1:Int)>0 from by decide,if_true,e]
 have c:(if (0:Int)<(j:Int) then ((j:Int)-0+1-1) / 1 else 0).toNat=j-0:=by
  rw[Int.ediv_one,Int.add_sub_cancel,Int.sub_zero,Nat.sub_zero]
  split
  ·rfl
  omega
 rw[c];refine XS λk _=>?_;omega
theorem fP {z:Str} {a:Nat} (h:a<=z.cps.size):(Txt.slice z (some (a:Int)) none).cps.toList=z.cps.toList.drop a:=by
 have h':z.length=z.cps.size:=rfl;refine(iC (a:=a) (b:=z.cps.size) ?_ (Qg _) h).trans (by rw[QV (by rw[XG,Qi];omega)]);unfold PySem.Builtin.Str.strSliceIndices sliceRange
 have e:max 0 (min (if (a:Int)<0 then (a:Int)+z.length else (a:Int)) (z.length:Int))=(a:Int):=by
  rw[Qo (Int.not_lt.mpr (Int.natCast_nonneg _)),Int.min_eq_left (show _<=(z.length:Int) from Int.ofNat_le.mpr h),Int.max_eq_right (Int.natCast_nonneg _)]
 simp only[show (1:Int)>0 from by decide,if_true,e]
 have c:(if (a:Int)<(z.length:Int) then ((z.length:Int)-(a:Int)+1-1) / 1 else 0).toNat=z.cps.size-a:=by
  rw[Int.ediv_one,Int.add_sub_cancel,h']
  split
  ·rw[<-Int.ofNat_sub h];rfl
  omega
 rw[c];refine XS λk _=>?_;omega
theorem dJ (st:StOk n z) (hi:i<n):StOk n (b_ z i):=by
 have hl:=st.len;have a:=f8 (z:=z) (j:=i) (by omega);have b:=fP (z:=z) (a:=i+1) (by omega);rw[show ((i+1:Nat):Int)=(i:Int)+1 from by omega]at b
 have f:(dE z i).cps.toList=[48]\/(dE z i).cps.toList=[49]:=by
  unfold dE
  split
  ·exact .inl (by decide +kernel)
  exact .inr (by decide +kernel)
 have e:(b_ z i).cps.toList=(z.cps.toList.take i++(dE z i).cps.toList)++z.cps.toList.drop (i+1):=by
  unfold b_;show ((_++_)++_:Array Nat).toList=_;rw[Array.toList_append,Array.toList_append,a,b]
 refine⟨?_,λc hc=>?_⟩
 ·rw[<-Qi,e,Qh,Qh,QO,XG,Qi];have:(dE z i).cps.toList.length=1:=by rcases f with f|f <;> rw[f] <;> rfl
  omega
 rw[e]at hc;rcases Qz.mp hc with h|h
 ·rcases Qz.mp h with h|h
  ·exact st.signs c (List.mem_of_mem_take h)
  rcases f with f|f
  ·rw[f]at h;exact .inl (by simpa using h)
  rw[f]at h;exact .inr (by simpa using h)
 exact st.signs c (List.mem_of_mem_drop h)
theorem turn_list (st:StOk n z) (hi:i<n):(b_ z i).cps.toList=z.cps.toList.take i++(if (z.cps.getD i 0==49)=true then 48 else 49)::z.cps.toList.drop (i+1):=by
 have hl:=st.len;have a:=f8 (z:=z) (j:=i) (by omega);have b:=fP (z:=z) (a:=i+1) (by omega);rw[show ((i+1:Nat):Int)=(i:Int)+1 from by omega]at b
 have f:(dE z i).cps.toList=[if (z.cps.getD i 0==49)=true then 48 else 49]:=by
  unfold dE
  split
  ·decide +kernel
  decide +kernel
 unfold b_;show ((_++_)++_:Array Nat).toList=_;rw[Array.toList_append,Array.toList_append,a,b,f];simp
variable {b l a li lo L nl N ln T TL:Addr} {H H' H1 H2 H0:Hp}
theorem bP (S:aj H H') (h:H' b=none):H b=none:=by
 cases e:H b with
 | none=>rfl
 | some o=>rw[S b o e]at h;cases h
theorem cM {D:Addr} {xs:List V} {o:HO} (h:H D=some (.lst xs)):bh H (upd H D o):=λb ys e=>by
 rw[ah (λz=>by rw[z,h]at e;cases e)];exact e
section
variable {α β:Type} {K:PySem.W.Frag} {J:It} {H1:Hp} {D:Addr} {σ0:St} {g:TG} {te:TE} {tt:L2.TT} {QD:Hp->Prop}
theorem cm (xs:List α) (c:α->Bool) (R:Hp->V->α->Prop) (hD:H1 D=none) (few:xs.length<=100000) (mono:∀H H' v x,bh H H'->R H v x->R H' v x)
  (go:∀i H,aj H1 H->i<xs.length->J.go i H) (stop:∀H,aj H1 H->J.stop xs.length H)
  (hs:∀i x H v H',xs[i]?=some x->aj H1 H->J.yld i H v H'->∀(G:V->Hp->Prop) (N:Hp->Prop),(c x=true->∀u H2,aj H H2->R H2 u x->G u H2)->(c x=false->∀H2,aj H H2->N H2)->g v σ0 H' λσ2 H2=>wk σ0 σ2/\tt σ2 H2 λb H3=>if b=true then te σ2 H3 G else N H3)
  (hd:∀H ys,aj H1 H->H D=some (.lst ys)->Paired (R H) ys (xs.filter c)->QD H) :
  ∃W:Nat->Nat->Hp->List V->Prop,(∃m,W 0 m (upd H1 D (.lst [])) [])/\∀i m H ys,W i m H ys->H D=some (.lst ys)/\((J.stop i H/\QD H)\/(J.go i H/\∀x H',J.yld i H x H'->g x σ0 H' λσ2 H2=>wk σ0 σ2/\tt σ2 H2 λb H3 =>
   if b=true then te σ2 H3 λv H4=>H4 D=some (.lst ys)/\ys.length<sizeLine/\∃m',m'<m/\W (i+1) m' (upd H4 D (.lst (ys++[v]))) (ys++[v]) else ∃m',m'<m/\W (i+1) m' H3 ys)):=by
 refine⟨λi m H ys=>m=xs.length-i/\i<=xs.length/\aj H1 H/\H D=some (.lst ys)/\Paired (R H) ys ((xs.take i).filter c),⟨_,rfl,QR _,aw hD,af,by rw[List.take_zero];exact .nil⟩,?_⟩;rintro i m H ys ⟨rfl,hi,S,hy,p⟩;refine⟨hy,?_⟩;by_cases hl:i<xs.length
 ·refine .inr ⟨go i H S hl,λv H' y=>?_⟩;have ex:xs[i]?=some xs[i]:=Qe hl;have hm:xs.length-(i+1)<xs.length-i:=by omega
  refine hs i xs[i] H v H' ex S y _ _ (λct u H2 S2 r=>?_) (λcf H2 S2=>?_)
  ·have yl:ys.length<=xs.length:=by
    rw[av p];refine QJ (XU _ _) ?_;rw[QO];omega
   have hy2:=S2 _ _ hy;have kt:=cM (o:=.lst (ys++[u])) hy2;refine⟨hy2,XY yl (XY few (by decide)),_,hm,rfl,hl,bu (S.trans S2) hD,af,?_⟩;rw[XH,ex,List.filter_append];have e:(some xs[i]).toList.filter c=[xs[i]]:=by simp[ct]
   rw[e];exact ba (ag (λv x r=>mono _ _ v x kt (mono _ _ v x (aj.tups S2) r)) p) (mono _ _ u _ kt r)
  refine⟨_,hm,rfl,hl,S.trans S2,S2 _ _ hy,?_⟩;rw[XH,ex,List.filter_append];have e:(some xs[i]).toList.filter c=[]:=by simp[cf]
  rw[e,List.append_nil];exact ag (λv x r=>mono _ _ v x (aj.tups S2) r) p
 obtain rfl:i=xs.length:=by omega
 rw[QV (Qg _)]at p;exact .inl ⟨stop H S,hd H ys S hy p⟩
variable {xs:List α} {vs:List V} {a b:Addr}
theorem eK {I:V->α->Prop} (c:α->Bool) (R:Hp->V->α->Prop) (hD:H1 D=none) (e:H1 a=some (.lst vs)) (pa:Paired I vs xs) (few:xs.length<=100000) (mono:∀H H' v x,bh H H'->R H v x->R H' v x)
  (hs:∀v x H,I v x->x∈xs->aj H1 H->∀(G:V->Hp->Prop) (N:Hp->Prop),(c x=true->∀u H2,aj H H2->R H2 u x->G u H2)->(c x=false->∀H2,aj H H2->N H2)->g v σ0 H λσ2 H2=>wk σ0 σ2/\tt σ2 H2 λb H3=>if b=true then te σ2 H3 G else N H3)
  (hd:∀H ys,aj H1 H->H D=some (.lst ys)->Paired (R H) ys (xs.filter c)->QD H) :
  ∃W:Nat->Nat->Hp->List V->Prop,(∃m,W 0 m (upd H1 D (.lst [])) [])/\∀i m H ys,W i m H ys->H D=some (.lst ys)/\(((Itl K a).stop i H/\QD H)\/((Itl K a).go i H/\∀x H',(Itl K a).yld i H x H'->g x σ0 H' λσ2 H2=>wk σ0 σ2/\tt σ2 H2 λb H3 =>
   if b=true then te σ2 H3 λv H4=>H4 D=some (.lst ys)/\ys.length<sizeLine/\∃m',m'<m/\W (i+1) m' (upd H4 D (.lst (ys++[v]))) (ys++[v]) else ∃m',m'<m/\W (i+1) m' H3 ys)):=by
 have l:=av pa;refine cm xs c R hD few mono (λi H S hi=>⟨vs,vs[i],SqL.of (S _ _ e),Qe _⟩) (λH S=>⟨vs,SqL.of (S _ _ e),by omega⟩) (λi x H v H' ex S y=>?_) hd;obtain⟨e',y⟩:=y;subst e';obtain⟨v',ev,r⟩:=bg pa ex;cases ev.symm.trans (y vs (SqL.of (S _ _ e)));exact hs v x _ r (Qk ex) S
theorem m_ {us:List β} {i:Nat} {x:α} {u:β} (h1:xs[i]?=some x) (h2:us[i]?=some u):(xs.zip us)[i]?=some (x,u):=by
 rw[List.getElem?_zip_eq_some];exact⟨h1,h2⟩
def Sqv (t:Bool) (H:Hp) (a:Addr) (vs:List V):Prop:=if t=true then H a=some (.tup vs) else H a=some (.lst vs)
theorem Sqv.of {t:Bool} {H:Hp} (h:Sqv t H a vs):SqS t K H a vs:=by
 cases t with
 | true=>exact SqT.of h
 | false=>exact SqL.of h
theorem Sqv.same {t:Bool} {H H':Hp} (S:aj H H') (h:Sqv t H a vs):Sqv t H' a vs:=by
 cases t with
 | true=>exact S _ _ h
 | false=>exact S _ _ h
theorem pY {t1 t2:Bool} {ws:List V} {us:List β} {I1:V->α->Prop} {I2:V->β->Prop} (c:α × β->Bool) (R:Hp->V->α × β->Prop) (hD:H1 D=none) (e1:Sqv t1 H1 a vs) (e2:Sqv t2 H1 b ws) (p1:Paired I1 vs xs) (p2:Paired I2 ws us) (hl:xs.length=us.length) (few:xs.length<=100000) (mono:∀H H' v x,bh H H'->R H v x->R H' v x)
  (hs:∀v x w u T H,I1 v x->I2 w u->(x,u)∈xs.zip us->aj H1 H->H T=some (.tup [v,w])->∀(G:V->Hp->Prop) (N:Hp->Prop),(c (x,u)=true->∀y H2,aj H H2->R H2 y (x,u)->G y H2)->(c (x,u)=false->∀H2,aj H H2->N H2)->g (.ref T) σ0 H λσ2 H2=>wk σ0 σ2/\tt σ2 H2 λb H3=>if b=true then te σ2 H3 G else N H3)
  (hd:∀H ys,aj H1 H->H D=some (.lst ys)->Paired (R H) ys ((xs.zip us).filter c)->QD H) :
  ∃W:Nat->Nat->Hp->List V->Prop,(∃m,W 0 m (upd H1 D (.lst [])) [])/\∀i m H ys,W i m H ys->H D=some (.lst ys)/\(((oB t1 t2 K a b).stop i H/\QD H)\/((oB t1 t2 K a b).go i H/\∀x H',(oB t1 t2 K a b).yld i H x H'->g x σ0 H' λσ2 H2=>wk σ0 σ2/\tt σ2 H2 λb H3 =>
   if b=true then te σ2 H3 λv H4=>H4 D=some (.lst ys)/\ys.length<sizeLine/\∃m',m'<m/\W (i+1) m' (upd H4 D (.lst (ys++[v]))) (ys++[v]) else ∃m',m'<m/\W (i+1) m' H3 ys)):=by
 have l1:=av p1;have l2:=av p2;have lz:(xs.zip us).length=xs.length:=by rw[List.length_zip];omega
 refine cm (xs.zip us) c R hD (by omega) mono (λi H S hi=>⟨⟨vs,vs[i],(e1.same S).of,Qe _⟩,ws,ws[i],(e2.same S).of,Qe _⟩) (λH S=>⟨vs,(e1.same S).of,by omega⟩) (λi x H v H' ex S y=>?_) hd;obtain⟨T,v',w',hT,ex',eH,y1,y2⟩:=y;subst ex' eH;obtain⟨x,u⟩:=x;obtain⟨g1,g2⟩:=List.getElem?_zip_eq_some.mp ex;obtain⟨v1,ev1,r1⟩:=bg p1 g1;obtain⟨w1,ew1,r2⟩:=bg p2 g2;cases ev1.symm.trans (y1 vs (e1.same S).of);cases ew1.symm.trans (y2 ws (e2.same S).of);intro G N hG hN;have ST:=aw (o:=.tup [v',w']) hT;exact hs v' x w' u T _ r1 r2 (Qk ex) (S.trans ST) af G N (λct y H2 S2 r=>hG ct y H2 (ST.trans S2) r) (λcf H2 S2=>hN cf H2 (ST.trans S2))
end
abbrev Tu:=Str × Str
structure Arc where
 one:Tu
 two:Tu
 mark:Int
structure Rg where
 ins:List Str
 outs:List Str
 z:Str
 arcs:List Arc
def Rg.ws (r:Rg):List Str:=r.ins++r.outs
def dF (ws:List Str) (t:Tu):Prop:=t.1∈ws/\(t.2 = "+" \/ t.2 = "-")
structure ArOk (ws:List Str) (a:Arc):Prop where
 o:dF ws a.one
 t:dF ws a.two
 ne:a.one≠a.two
 m:a.mark=0\/a.mark=1
structure RgOk (r:Rg):Prop where
 nd:r.ws.Nodup
 w1:1<=r.ws.length
 w5:r.ws.length<=5
 st:StOk r.ws.length r.z
 few:r.arcs.length<=1000
 arcs:∀a∈r.arcs,ArOk r.ws a
def TuA (H:Hp) (v:V) (t:Tu):Prop:=∃b,v=.ref b/\H b=some (.tup [.str t.1,.str t.2])
def ArA (H:Hp) (v:V) (a:Arc):Prop:=∃b v1 v2,v=.ref b/\H b=some (.tup [v1,v2,.int a.mark])/\TuA H v1 a.one/\TuA H v2 a.two
variable {v u:V}
theorem TuA.kt {t:Tu} (k:bh H H') (h:TuA H v t):TuA H' v t:=let ⟨b,e,q⟩:=h;⟨b,e,k _ _ q⟩
theorem ArA.kt {a:Arc} (k:bh H H') (h:ArA H v a):ArA H' v a:=let ⟨b,v1,v2,e,q,h1,h2⟩:=h;⟨b,v1,v2,e,k _ _ q,h1.kt k,h2.kt k⟩
structure ArsA (H:Hp) (l:Addr) (vs:List V) (as:List Arc):Prop where
 h:H l=some (.lst vs)
 p:Paired (ArA H) vs as
variable {as:List Arc} {vs:List V}
theorem ArsA.same {H':Hp} (S:aj H H') (h:ArsA H l vs as):ArsA H' l vs as:=⟨S _ _ h.h,ag (λ_ _ q=>q.kt (aj.tups S)) h.p⟩
structure RgA (H:Hp) (a li lo l:Addr) (vs:List V) (r:Rg):Prop where
 ha:H a=some (.tup [.ref li,.ref lo,.str r.z,.ref l])
 hi:H li=some (.lst (r.ins.map V.str))
 ho:H lo=some (.lst (r.outs.map V.str))
 arcs:ArsA H l vs r.arcs
variable {r:Rg}
theorem RgA.same {H':Hp} (S:aj H H') (h:RgA H a li lo l vs r):RgA H' a li lo l vs r:=⟨S _ _ h.ha,S _ _ h.hi,S _ _ h.ho,h.arcs.same S⟩
def tk2 (t:Tu):aB:=[.inl (.inr t.1),.inl (.inr t.2)]
theorem ic {x y:Tu} (h:tk2 x=tk2 y):x=y:=by
 unfold tk2 at h;simp only[List.cons.injEq,Sum.inl.injEq,Sum.inr.injEq]at h;exact Prod.ext h.1 h.2.1
theorem TuA.tk {t:Tu} (h:TuA H (.ref b) t):bS H (tk2 t) b:=by
 obtain⟨_,e,q⟩:=h;cases e;exact⟨_,q,.cons rfl (.cons rfl .nil)⟩
theorem TuA.of {t:Tu} (h:bS H (tk2 t) b):TuA H (.ref b) t:=by
 obtain⟨vs,q,p⟩:=h
 cases p with
 | cons r1 p=>cases p with
  | cons r2 p =>
   cases p;cases r1;cases r2;exact⟨b,rfl,q⟩
variable {Q:VK}
theorem eJ {K:PySem.W.Frag} {neg:Bool} {x y:Tu} (h1:TuA H u x) (h2:TuA H v y) (q:Q (.bl (if neg=true then !decide (x=y) else decide (x=y))) H):r_ K neg u v H Q:=by
 obtain⟨a,e,_⟩:=id h1;subst e;obtain⟨b,e,_⟩:=id h2;subst e;refine AR h1.tk h2.tk rfl ?_;have e:decide (tk2 x=tk2 y)=decide (x=y):=decide_eq_decide.mpr ⟨ic,λh=>by rw[h]⟩;rw[e];exact q
variable {ts way:List Tu}
theorem yE (h:Paired (TuA H) vs ts):∃bs:B3,vs=bs.map V.ref/\KsA H bs (ts.map tk2):=by
 induction h with
 | nil=>exact⟨[],rfl,.nil⟩
 | @cons v t _ _ r _ ih =>
 obtain⟨bs,e,p⟩:=ih;obtain⟨b,e1,q⟩:=id r;subst e1;exact⟨b::bs,by rw[e];rfl,.cons r.tk p⟩
variable {ks us:List aB}
theorem zk {bs:B3} (h:KsA H bs ks) (hk:∀k∈ks,∃t,k=tk2 t):∃ts:List Tu,ks=ts.map tk2/\Paired (TuA H) (bs.map V.ref) ts:=by
 induction h with
 | nil=>exact⟨[],rfl,.nil⟩
 | @cons b k _ _ r _ ih =>
 obtain⟨ts,e,p⟩:=ih λk hk'=>hk k (Qn _ hk');obtain⟨t,rfl⟩:=hk k (by simp);exact⟨t::ts,by rw[e];rfl,.cons (TuA.of r) p⟩
theorem wn (ts:List Tu):v_ true (ts.map tk2):=by
 refine⟨λx hx y hy=>?_,λx hx=>?_⟩
 ·obtain⟨t,_,rfl⟩:=Qm.mp hx;obtain⟨u,_,rfl⟩:=Qm.mp hy;rfl
 obtain⟨t,_,rfl⟩:=Qm.mp hx;exact⟨_,_,rfl⟩
def leT (x y:Tu):Prop:=leF (tk2 x) (tk2 y)
theorem vj {x y:Tu} (h1:leT x y) (h2:leT y x):x=y:=by
 have h:=Tm.ny h1 h2;have:[Sum.inr x.1,Sum.inr x.2]=([Sum.inr y.1,Sum.inr y.2]:List Key):=h;simp only[List.cons.injEq,Sum.inr.injEq]at this;exact Prod.ext this.1 this.2.1
structure WtOk (P:Tu->Prop) (ts:List Tu):Prop where
 nd:ts.Nodup
 mem:∀x,x∈ts↔P x
 so:ts.Pairwise leT
theorem iB {α:Type} {le:α->α->Prop} (anti:∀x y,le x y->le y x->x=y):∀{xs ys:List α},xs.Nodup->ys.Nodup->(∀x,x∈xs↔x∈ys)->xs.Pairwise le->ys.Pairwise le->xs=ys
 | [],[],_,_,_,_,_=>rfl
 | [],y::_,_,_,m,_,_=>absurd ((m y).mpr (by simp)) (by simp)
 | x::_,[],_,_,m,_,_=>absurd ((m x).mp (by simp)) (by simp)
 | x::xs,y::ys,n1,n2,m,s1,s2=>by
  rw[QU]at n1 n2;rw[List.pairwise_cons]at s1 s2
  have e:x=y:=by
   rcases Qj.mp ((m x).mp (by simp)) with h|h
   ·exact h
   rcases Qj.mp ((m y).mpr (by simp)) with h'|h'
   ·exact h'.symm
   exact anti _ _ (s1.1 _ h') (s2.1 _ h)
  subst e;refine congrArg (x::·) (iB anti n1.2 n2.2 (λz=>?_) s1.2 s2.2);have:=m z;by_cases c:z=x
  ·subst c;exact⟨λh=>absurd h n1.1,λh=>absurd h n2.1⟩
  simpa[c] using this
theorem WtOk.one {P P':Tu->Prop} {us:List Tu} (h:WtOk P ts) (g:WtOk P' us) (e:∀x,P x↔P' x):ts=us :=
 iB (λ_ _=>vj) h.nd g.nd (λx=>(h.mem x).trans ((e x).trans (g.mem x).symm)) h.so g.so
def mh:Sp:=λvs H Q _=>∃(a li lo l:Addr) (as:List V) (r:Rg) (row nm:Str),vs=[.ref a,.str row,.str nm]/\RgA H a li lo l as r/\RgOk r/\StOk r.ws.length row/\nm∈r.ws/\∀H',aj H H'->Q (.str (b_ row (r.ws.idxOf nm))) H'
def tZ:Sp:=λvs H Q _=>∃(l:Addr) (as:List V) (r:Rg),vs=[.ref l]/\ArsA H l as r.arcs/\RgOk r/\∀p vs ts H',aj H H'->H p=none->H' p=some (.lst vs)->Paired (TuA H') vs ts->WtOk (λt=>∃a∈r.arcs,a.two=t) ts->Q (.ref p) H'
def mks (as:List Arc):List Int:=as.map (·.mark)
def qE:Sp:=λvs H Q _=>∃(l:Addr) (as:List V) (r:Rg),vs=[.ref l]/\ArsA H l as r.arcs/\RgOk r/\∀p H',aj H H'->H' p=some (.tup ((mks r.arcs).map V.int))->Q (.ref p) H'
theorem lD {ws:List Str} (h:x∈ws):ws[ws.idxOf x]?=some x:=by
 have hi:=QS h;rw[Qe hi];exact congrArg some (List.getElem_idxOf hi)
theorem fq {ws:List Str}:∀m,m<ws.idxOf x->ws[m]?≠some x:=λm hm e=>by
 have h1:=List.not_of_lt_findIdx (xs:=ws) (p:=(·==x)) (i:=m) hm;obtain⟨h2,e2⟩:=Qd.mp e;rw[e2]at h1;simp at h1
variable {α β:Type}
theorem cN (xs:List α):xs.filter (λ_=>true)=xs:=List.filter_eq_self.mpr (by simp)
theorem bV {α β γ:Type} {F:α->γ->Prop} {f:β->γ}:∀{xs:List α} {ys:List β},Paired (λx y=>F x (f y)) xs ys->Paired F xs (ys.map f)
 | _,_,.nil=>.nil
 | _,_,.cons h t=>.cons h (bV t)
theorem cI {α β:Type} {f:β->α}:∀{xs:List α} {ys:List β},Paired (λx y=>x=f y) xs ys->xs=ys.map f
 | _,_,.nil=>rfl
 | _,_,.cons h t=>by rw[h,cI t];rfl
theorem xv (ok:RgOk r) (nd:us.Nodup) (h:∀x∈us,x∈(r.arcs.map (·.two)).map tk2):us.length<64:=by
 have:=Bf.pigeon us ((r.ws.map λn=>tk2 (n, "+"))++(r.ws.map λn=>tk2 (n, "-"))) nd λx hx=>by
  have hx:=h x hx;rw[Q3]at hx;obtain⟨a,ha,rfl⟩:=Qm.mp hx;obtain⟨h1,h2⟩:=(ok.arcs a ha).t;refine Qz.mpr ?_;rcases h2 with e|e
  ·exact .inl (Qm.mpr ⟨_,h1,by show tk2 _=tk2 _;rw[<-e]⟩)
  exact .inr (Qm.mpr ⟨_,h1,by show tk2 _=tk2 _;rw[<-e]⟩)
 rw[Qh,Qb,Qb]at this;have:=ok.w5;omega
variable {U σ0:St}
theorem pQ {K:PySem.W.Frag} {ta:TA} (q:ta U H λvs H1=>∃(ks:List aB) (b:Bool),qh K H1 vs ks/\v_ b ks/\∀(p:Addr) (bs':B3) (us:List aB),H1 p=none->KsA H1 bs' us->us.Nodup->(∀x,x∈us↔x∈ks)->us.Pairwise leF->Q (.ref p) (upd H1 p (.lst (bs'.map V.ref)))):jG K ta U H Q:=q
section
theorem fH:FnScope ["sheet", "row", "name"] ["sheet", "row", "name"] (au (top 21)):=by fin2
variable {fd:FuncData}
theorem sE {f:Addr} (Fu:Fun K "row_behind" "row_behind" (top 21) f fd) (T:Txt K mg TT) (f_turned_at:Fn P w K mg base "turned_at" ["standing", "place"] 1 iA):FnOk P w K mg base CX0 2 f fd ["sheet", "row", "name"] mh:=by
 have S:=fH;refine Fu.ok S (by room) (λcdv A outer s H vs Q E hr h=>?_);obtain⟨a,li,lo,l,as,sh,row,nm,rfl,at_,ok,st,hnm,k⟩:=h;refine⟨_,(aI (aD (aM f_turned_at hr (aa (pv 1) (aa (bO QE Xk Xl gi (aO eD (am aA (pv 0) ae) (am aA (pv 0) ae)) (aa (pv 2) ac ad)) ac se_call) ad)))),?_⟩;x_go;have lw:(sh.ins.map V.str).length+(sh.outs.map V.str).length=sh.ws.length:=by rw[Qb,Qb];unfold Rg.ws;rw[Qh]
 have ha:=at_.ha;have w5:=ok.w5;lk;refine gv at_.hi at_.ho (by rw[lw];omega) λp hp=>?_;rw[<-QI];show tyV K "list" (.ref p) _/\_;refine⟨i_tyL af,?_⟩;lk;refine⟨p,sh.ws,nm,sh.ws.idxOf nm,rfl,rfl,af,lD hnm,fq,by omega,?_⟩;lk;exact⟨row,_,_,rfl,st,QS hnm,by omega,k _ (aw hp)⟩
theorem gJ:FnScope ["arcs"] ["arcs"] (au (top 28)):=by fin2
theorem wF {f:Addr} (Fu:Fun K "waiting_turns" "waiting_turns" (top 28) f fd) (T:Txt K mg TT):FnOk P w K mg base CX0 2 f fd ["arcs"] tZ:=by
 have S:=gJ;refine Fu.ok S (by room) (λcdv A outer s H vs Q E hr h=>?_);obtain⟨l,as,r,rfl,at_,ok,k⟩:=h;have hu:=cV hr;refine⟨_,(aI (aD (mP rfl hu (by rfl) T.n_sorted (by rfl) T.n_set (aa (dW "arc" [] (bi (pv 0)) (λ_ _ _ _=>(am (de (K:=K) rfl) (pv 0) ae))) ac)))),?_⟩;x_go;lk;refine pQ (aY (bC (s_list (aE rfl ⟨l,rfl,⟨_,SqL.of at_.h⟩,λD hD=>?_⟩))));refine eK (λ_=>true) (λH v (a:Arc)=>TuA H v a.two) hD at_.h at_.p (QJ ok.few (by decide)) (λH H' v x k h=>h.kt k) (λv x H' ia mx S' G N hG _=>?_) (λH' ys S' hy p=>?_)
 ·obtain⟨b,v1,v2,rfl,hb,t1,t2⟩:=ia.kt (aj.tups S');refine az ⟨trivial,i_yes (cu ?_)⟩;lk;exact hG rfl _ H' (aj.refl _) t2
 rw[cN]at p;have p:=bV (f:=λa:Arc=>a.two) p;obtain⟨bs,e,ka⟩:=yE p;subst e;refine aZ ⟨_,true,⟨D,bs,rfl,SqL.of hy,ka,λk hk=>?_,λus nd h=>xv ok nd h⟩,wn _,λq bs' us hq ka' nd mm so=>?_⟩
 ·obtain⟨t,_,rfl⟩:=Qm.mp hk;rfl
 obtain⟨ts,e,pt⟩:=zk ka' λk hk=>by obtain⟨t,_,e⟩:=Qm.mp ((mm k).mp hk);exact⟨t,e.symm⟩
 subst e;have S4:=aw (o:=.lst (bs'.map V.ref)) hq;refine k q _ ts _ (S'.trans S4) (bP S' hq) af (ag (λ_ _ h=>h.kt (aj.tups S4)) pt) ⟨(Xv.mp nd).imp λh e=>h (by rw[e]),λx=>?_,(Xv.mp so).imp λh=>h⟩
 constructor
 ·intro hx;obtain⟨t,ht,e⟩:=Qm.mp ((mm _).mp (Qm.mpr ⟨x,hx,rfl⟩));obtain⟨a,ha,e2⟩:=Qm.mp ht;exact⟨a,ha,by rw[e2];exact ic e⟩
 rintro⟨a,ha,rfl⟩;obtain⟨t,ht,e⟩:=Qm.mp ((mm (tk2 a.two)).mpr (Qm.mpr ⟨_,Qm.mpr ⟨a,ha,rfl⟩,rfl⟩));rw[<-ic e];exact ht
theorem iH:FnScope ["arcs"] ["arcs"] (au (top 29)):=by fin2
theorem uZ {f:Addr} (Fu:Fun K "first_marks" "first_marks" (top 29) f fd) (T:Txt K mg TT):FnOk P w K mg base CX0 2 f fd ["arcs"] qE:=by
 have S:=iH;refine Fu.ok S (by room) (λcdv A outer s H vs Q E hr h=>?_);obtain⟨l,as,r,rfl,at_,ok,k⟩:=h;have hu:=cV hr;refine⟨_,(aI (aD (bp fL (by rfl) T.n_tuple PyProof.Rows.boot_tuple (aa (dW "arc" [] (bi (pv 0)) (λ_ _ _ _=>(am (de (K:=K) rfl) (pv 0) ae))) ac)))),?_⟩;x_go;lk;refine bC (s_list (aE rfl ⟨l,rfl,⟨_,SqL.of at_.h⟩,λD hD=>?_⟩));refine eK (λ_=>true) (λH v (a:Arc)=>v=.int a.mark) hD at_.h at_.p (QJ ok.few (by decide)) (λH H' v x k h=>h) (λv x H' ia mx S' G N hG _=>?_) (λH' ys S' hy p=>?_)
 ·obtain⟨b,v1,v2,rfl,hb,t1,t2⟩:=ia.kt (aj.tups S');refine az ⟨trivial,i_yes (cu ?_)⟩;lk;exact hG rfl _ H' (aj.refl _) rfl
 rw[cN]at p;refine aZ ⟨D,ys,rfl,.inl ⟨SqL.of hy,λq hq=>?_⟩⟩;have e:ys=(mks r.arcs).map V.int:=by rw[cI p];unfold mks;rw[Q3];rfl
 subst e;exact k q _ (S'.trans (aw hq)) af
end
def cK (as:List Arc) (ms:List Int) (t:Tu):Bool:=(as.zip ms).all λp=>!decide (p.1.two=t) || decide (0<p.2)
def mkB (a:Arc) (m:Int) (t:Tu):Int:=if a.one=t then m+1 else if a.two=t then m-1 else m
def dH (as:List Arc) (ms:List Int) (t:Tu):List Int:=(as.zip ms).map λp=>mkB p.1 p.2 t
structure MkOk (as:List Arc) (ms:List Int):Prop where
 len:ms.length=as.length
 m:∀m∈ms,m=0\/m=1
def xZ:Sp:=λvs H Q _=>∃(l ma ta:Addr) (as:List V) (r:Rg) (ms:List Int) (t:Tu),vs=[.ref l,.ref ma,.ref ta]/\ArsA H l as r.arcs/\RgOk r/\H ma=some (.tup (ms.map V.int))/\MkOk r.arcs ms/\TuA H (.ref ta) t/\∀H',aj H H'->Q (.bl (cK r.arcs ms t)) H'
def ub:Sp:=λvs H Q _=>∃(v:V) (m:Int) (ta:Addr) (a:Arc) (t:Tu),vs=[v,.int m,.ref ta]/\ArA H v a/\(m=0\/m=1)/\TuA H (.ref ta) t/\∀H',aj H H'->Q (.int (mkB a m t)) H'
def qC:Sp:=λvs H Q _=>∃(l ma ta:Addr) (as:List V) (r:Rg) (ms:List Int) (t:Tu),vs=[.ref l,.ref ma,.ref ta]/\ArsA H l as r.arcs/\RgOk r/\H ma=some (.tup (ms.map V.int))/\MkOk r.arcs ms/\TuA H (.ref ta) t/\∀p H',aj H H'->H' p=some (.tup ((dH r.arcs ms t).map V.int))->Q (.ref p) H'
theorem dM:∀(ms:List Int),Paired (λv m=>v=V.int m) (ms.map V.int) ms
 | []=>.nil
 | _::ms=>.cons rfl (dM ms)
section
theorem mC:FnScope ["arcs", "marks", "turn"] ["arcs", "marks", "turn"] (au (top 30)):=by fin2
variable {fd:FuncData}
theorem zh {f:Addr} (Fu:Fun K "may_come" "may_come" (top 30) f fd) (T:Txt K mg TT):FnOk P w K mg base CX0 2 f fd ["arcs", "marks", "turn"] xZ:=by
 have S:=mC;refine Fu.ok S (by room) (λcdv A outer s H vs Q E hr h=>?_);obtain⟨l,ma,ta,as,r,ms,t,rfl,at_,ok,hm,mok,tu,k⟩:=h;have hu:=cV hr;refine⟨_,(aI (aD (aq (cW rfl) (by rfl) T.n_all XV (aa (jQ (tgs:=["arc", "mark"]) (cap:=[("turn", 2)]) rfl ⟨rfl,rfl,rfl,rfl,rfl,rfl⟩ (ij (by rfl) T.n_zip (aa (pv 0) (aa (pv 1) ac ad) ad)) (λ_ _ _ _=>(fo (K:=K) (n:=2) rfl rfl (aH (bw (i:=0) (show List.Nodup [("arc" : Str),("mark" : Str),("turn" : Str)] by decide +kernel) rfl (by z_go)) (aH (bw (i:=1) (show List.Nodup [("arc" : Str),("mark" : Str),("turn" : Str)] by decide +kernel) rfl (by z_go)) bL)))) (λ_ _ _ _=>(eY (aC (k6 (K:=K) rfl hr.units) (am (de (K:=K) rfl) (pv 0) ae) (pv 2) (aF _)))) (λ_ _ _ _=>(bn iR (pv 1) ae (aF _)))) ac)))),?_⟩;x_go;lk;refine bC (aY (aE rfl (aY (aE rfl (aZ ⟨l,ma,false,true,rfl,⟨_,SqL.of at_.h⟩,⟨_,SqT.of hm⟩,λD hD=>?_⟩)))));refine pY (λp=>decide (p.1.two=t)) (λH v p=>v=.bl (decide (0<p.2))) hD at_.h hm at_.p (dM ms) mok.len.symm (QJ ok.few (by decide)) (λH H' v x k h=>h) (λv x u m b H' ia im mx S' hb G N hG hN=>?_) (λH' ys S' hy p=>?_)
 ·obtain⟨c,v1,v2,rfl,hc,t1,t2⟩:=ia.kt (aj.tups S');cases im;refine⟨b,_,rfl,SqT.of hb,rfl,_,_,rfl,az ⟨_,_,rfl,az ⟨rfl,⟨rfl,trivial⟩,?_⟩⟩⟩;lk;refine eJ t2 (tu.kt (aj.tups S')) ⟨_,rfl,?_⟩;dsimp only at hG hN ⊢;cases ct:decide (x.two=t)
  ·exact iteF (hN ct H' (aj.refl _))
  refine cu ?_;lk;exact hG ct _ H' (aj.refl _) rfl
 refine aZ ⟨D,(((r.arcs.zip ms).filter λp=>decide (p.1.two=t)).map λp=>decide (0<p.2)),rfl,?_,?_⟩
 ·rw[cI p]at hy;rw[Q3];exact SqL.of hy
 have e:((((r.arcs.zip ms).filter λp=>decide (p.1.two=t)).map λp=>decide (0<p.2)).all id)=cK r.arcs ms t:=by
  unfold cK;rw[List.all_map,List.all_filter];rfl
 rw[e];exact k H' S'
theorem iG:FnScope ["arc", "mark", "turn"] ["arc", "mark", "turn"] (au (top 31)):=by fin2
theorem wO {f:Addr} (Fu:Fun K "mark_behind" "mark_behind" (top 31) f fd) (T:Txt K mg TT):FnOk P w K mg base CX0 2 f fd ["arc", "mark", "turn"] ub:=by
 have S:=iG;refine Fu.ok S (by room) (λcdv A outer s H vs Q E hr h=>?_);obtain⟨v,m,ta,a,t,rfl,ia,hm,tu,k⟩:=h;have hu:=cV hr;obtain⟨b,v1,v2,rfl,hb,t1,t2⟩:=ia
 refine⟨_,(aK (ps_if (aC (gP hr.units) (am aA (pv 0) ae) (pv 2) (aF _)) (aI (aD (aO cD (pv 1) ae))) pss_nil)
  (aI (aD (mQ (aC (gP hr.units) (am aA (pv 0) ae) (pv 2) (aF _)) (aO fU (pv 1) ae) (pv 1))))),?_⟩
 x_go;have k:=k H (aj.refl H);unfold mkB at k;lk;refine eJ t1 tu ⟨_,rfl,?_⟩;by_cases c1:a.one=t
 ·rw[Qs c1]at k;refine ifT (Qv c1) ?_;lk;exact k
 rw[Qo c1]at k;refine ifF (Qu c1) ?_;lk;refine eJ t2 tu ⟨_,rfl,?_⟩;by_cases c2:a.two=t
 ·rw[Qs c2]at k;refine ifT (Qv c2) ?_;lk;exact k
 rw[Qo c2]at k;refine ifF (Qu c2) ?_;lk;exact k
theorem hX:FnScope ["arcs", "marks", "turn"] ["arcs", "marks", "turn"] (au (top 32)):=by fin2
theorem uW {f:Addr} (Fu:Fun K "marks_behind" "marks_behind" (top 32) f fd) (T:Txt K mg TT) (f_mark_behind:Fn P w K mg base "mark_behind" ["arc", "mark", "turn"] 2 ub):FnOk P w K mg base CX0 3 f fd ["arcs", "marks", "turn"] qC:=by
 have S:=hX;refine Fu.ok S (by room) (λcdv A outer s H vs Q E hr h=>?_);obtain⟨l,ma,ta,as,r,ms,t,rfl,at_,ok,hm,mok,tu,k⟩:=h;have hu:=cV hr;refine⟨_,(aI (aD (bp fL (by rfl) T.n_tuple PyProof.Rows.boot_tuple (aa (jQ (tgs:=["arc", "mark"]) (cap:=[("turn", 2)]) rfl ⟨rfl,rfl,rfl,rfl,rfl,rfl⟩ (ij (by rfl) T.n_zip (aa (pv 0) (aa (pv 1) ac ad) ad)) (λ_ _ _ _=>(fo (K:=K) (n:=2) rfl rfl (aH (bw (i:=0) (show List.Nodup [("arc" : Str),("mark" : Str),("turn" : Str)] by decide +kernel) rfl (by z_go)) (aH (bw (i:=1) (show List.Nodup [("arc" : Str),("mark" : Str),("turn" : Str)] by decide +kernel) rfl (by z_go)) bL)))) (λ_ _ _ _=>dS) (λ_ _ _ _=>(aM f_mark_behind hr (aa (pv 0) (aa (pv 1) (aa (pv 2) ac ad) ad) ad)))) ac)))),?_⟩;x_go;lk;refine bC (aY (aE rfl (aY (aE rfl (aZ ⟨l,ma,false,true,rfl,⟨_,SqL.of at_.h⟩,⟨_,SqT.of hm⟩,λD hD=>?_⟩)))));refine pY (λ_=>true) (λH v p=>v=.int (mkB p.1 p.2 t)) hD at_.h hm at_.p (dM ms) mok.len.symm (QJ ok.few (by decide)) (λH H' v x k h=>h) (λv x u m b H' ia im mx S' hb G N hG hN=>?_) (λH' ys S' hy p=>?_)
 ·have ia:=ia.kt (aj.tups S');cases im;refine⟨b,_,rfl,SqT.of hb,rfl,_,_,rfl,az ⟨_,_,rfl,az ⟨rfl,⟨rfl,trivial⟩,i_yes (cu ?_)⟩⟩⟩;lk;exact⟨v,m,ta,x,t,rfl,ia,mok.m m (List.of_mem_zip mx).2,tu.kt (aj.tups S'),λH2 S2=>hG rfl _ H2 S2 rfl⟩
 rw[cN]at p;refine aZ ⟨D,ys,rfl,.inl ⟨SqL.of hy,λq hq=>?_⟩⟩;have e:ys=(dH r.arcs ms t).map V.int:=by rw[cI p];unfold dH;rw[Q3];rfl
 subst e;exact k q _ (S'.trans (aw hq)) af
end
abbrev Pl:=List Int × Str
structure PlOk (r:Rg) (p:Pl):Prop where
 m:MkOk r.arcs p.1
 z:StOk r.ws.length p.2
def PlA (H:Hp) (v:V) (p:Pl):Prop:=∃b mb,v=.ref b/\H b=some (.tup [.ref mb,.str p.2])/\H mb=some (.tup (p.1.map V.int))
theorem PlA.kt {p:Pl} (k:bh H H') (h:PlA H v p):PlA H' v p:=let ⟨b,mb,e,h1,h2⟩:=h;⟨b,mb,e,k _ _ h1,k _ _ h2⟩
abbrev Sp1:=Tu × Pl
def StA (H:Hp) (v:V) (s:Sp1):Prop:=∃b v1 v2,v=.ref b/\H b=some (.tup [v1,v2])/\TuA H v1 s.1/\PlA H v2 s.2
theorem StA.kt {s:Sp1} (k:bh H H') (h:StA H v s):StA H' v s:=let ⟨b,v1,v2,e,h0,h1,h2⟩:=h;⟨b,v1,v2,e,k _ _ h0,h1.kt k,h2.kt k⟩
def aW (r:Rg) (p:Pl) (t:Tu):Sp1:=(t,(dH r.arcs p.1 t,b_ p.2 (r.ws.idxOf t.1)))
def bT (r:Rg) (ts:List Tu) (p:Pl):List Sp1:=(ts.filter (cK r.arcs p.1)).map (aW r p)
abbrev Wt (r:Rg) (ts:List Tu):Prop:=WtOk (λt=>∃a∈r.arcs,a.two=t) ts
theorem Wt.few (ok:RgOk r) (w:Wt r ts):ts.length<=10:=by
 have:=Bf.pigeon ts ((r.ws.map λn=>((n, "+"):Tu))++(r.ws.map λn=>((n, "-"):Tu))) w.nd λx hx=>by
  obtain⟨a,ha,rfl⟩:=(w.mem x).mp hx;obtain⟨h1,h2⟩:=(ok.arcs a ha).t;refine Qz.mpr ?_;rcases h2 with e|e
  ·exact .inl (Qm.mpr ⟨_,h1,Prod.ext rfl e.symm⟩)
  exact .inr (Qm.mpr ⟨_,h1,Prod.ext rfl e.symm⟩)
 rw[Qh,Qb,Qb]at this;have:=ok.w5;omega
theorem Wt.ok {r:Rg} {ts:List Tu} (ok:RgOk r) (w:Wt r ts) {t:Tu} (h:t∈ts):dF r.ws t:=by
 obtain⟨a,ha,rfl⟩:=(w.mem t).mp h;exact(ok.arcs a ha).t
def qx:Sp:=λvs H Q _=>∃(a li lo l:Addr) (as:List V) (r:Rg) (v:V) (p:Pl),vs=[.ref a,v]/\RgA H a li lo l as r/\RgOk r/\PlA H v p/\PlOk r p/\∀q sv ts H',aj H H'->H q=none->H' q=some (.lst sv)->Wt r ts->Paired (StA H') sv (bT r ts p)->Q (.ref q) H'
theorem eI {m:Int}:∀{ns:List Int},inV (.int m) (ns.map V.int)=true↔m∈ns
 | []=>by simp[inV]
 | x::ns=>by
  have ih:=eI (m:=m) (ns:=ns);unfold inV at ih ⊢;rw[Qw,List.any_cons,Bool.or_eq_true,Qj,ih]
  have:eqV (.int x) (.int m)=true↔m=x:=by
   show (x==m)=true↔m=x;rw[beq_iff_eq];exact eq_comm
  rw[this]
theorem fz (ns:List Int):(ns.map V.int).all bY=true:=by
 rw[List.all_map];exact QT.mpr λ_ _=>rfl
def sgB (row:Str) (i:Nat):Bool:=row.cps.getD i 0==49
def dy (r:Rg) (row:Str) (s:Sp1):Option Str:=if sgB row (r.ws.idxOf s.1.1)=decide (s.1.2 = "+") then some "signs" else if 2∈s.2.1 then some "twice" else none
def wV:Option Str->V
 | none=>.non
 | some z=>.str z
def xY:Sp:=λvs H Q _=>∃(a li lo l:Addr) (as:List V) (r:Rg) (v u:V) (p:Pl) (s:Sp1),vs=[.ref a,v,u]/\RgA H a li lo l as r/\RgOk r/\PlA H v p/\PlOk r p/\StA H u s/\dF r.ws s.1/\∀H',aj H H'->Q (wV (dy r p.2 s)) H'
section
theorem mw:FnScope ["ring_sheet", "place", "arcs", "steps", "turn"] ["ring_sheet", "place"] (au (top 33)):=by fin2
theorem uT {f:Addr} {fd:FuncData} (Fu:Fun K "steps_at" "steps_at" (top 33) f fd) (T:Txt K mg TT) (f_waiting_turns:Fn P w K mg base "waiting_turns" ["arcs"] 2 tZ) (f_may_come:Fn P w K mg base "may_come" ["arcs", "marks", "turn"] 2 xZ) (f_marks_behind:Fn P w K mg base "marks_behind" ["arcs", "marks", "turn"] 3 qC) (f_row_behind:Fn P w K mg base "row_behind" ["sheet", "row", "name"] 2 mh):FnOk P w K mg base CX0 4 f fd ["ring_sheet", "place"] qx:=by
 have S:=mw;refine Fu.ok S (by room) (λcdv A outer s H vs Q E hr h=>?_);obtain⟨a,li,lo,l,as,r,v,p,rfl,at_,ok,pa,po,k⟩:=h;have hu:=cV hr;obtain⟨b,mb,rfl,hb,hmb⟩:=id pa
 refine⟨_,(aK (aG 2 S.nd (am aA (pv 0) ae))
  (aK (aG 3 S.nd (pe_lst ac))
  (aK (ps_for PassesOwn.never rfl (bi (aM f_waiting_turns hr (aa (pv 2) ac ad))) (bB 4 S.nd)
  (aI (ps_if (cr (aM f_may_come hr (aa (pv 2) (aa (am aA (pv 1) ae) (aa (pv 4) ac ad)) ad))) (aI (bZ (bO QE Q0 Q2 bt (pv 3) (aa (pe_tup (aa (pv 4) (aa (pe_tup (aa (aM f_marks_behind hr (aa (pv 2) (aa (am aA (pv 1) ae) (aa (pv 4) ac ad)) ad)) (aa (aM f_row_behind hr (aa (pv 0) (aa (am aA (pv 1) ae) (aa (am aA (pv 4) ae) ac)) ad)) ac se_call) se_call)) ac se_tup) ad)) ac se_tup)))) pss_nil)))
  (aI (aD (pv 3)))))),?_⟩
 x_go;have ha:=at_.ha;lk;refine⟨by simp,λL hL=>az ?_⟩;generalize hE:upd H L (.lst [])=H0;obtain⟨S0,q0⟩:=ak hL hE;refine s_seq (s_for (s_list (i_call (aY (aE rfl (aZ ⟨l,as,r,rfl,at_.arcs.same S0,ok,λq tv ts H1 S1 nq hq pt wt=>⟨q,rfl,⟨_,SqL.of hq⟩,?_⟩⟩))))));have nLq:L≠q:=λz=>by rw[<-z,q0]at nq;cases nq
 let I1:IvF:=λi U H'=>(∃x,U=[some (.ref a),some (.ref b),some (.ref l),some (.ref L),x])/\aj H H'/\bh H1 H'/\H' q=some (.lst tv)/\∃sv,H' L=some (.lst sv)/\Paired (StA H') sv (bT r (ts.take i) p);refine cE (xs:=tv) I1 ⟨⟨none,rfl⟩,S0.trans S1,λ_ _ e=>e,hq,[],S1 _ _ q0,.nil⟩ (λi U H' _ h=>SqL.of h.2.2.2.1) (λi x U H' ex h=>?_) (λU H' h=>?_)
 ·obtain⟨⟨x0,rfl⟩,Sm,kt,hq',sv,hL',ps⟩:=h;obtain⟨t,et,tu⟩:=paired_get pt ex;have tu:=tu.kt kt;obtain⟨ta,rfl,hta⟩:=id tu;have at':=at_.same Sm;have pa':=pa.kt (aj.tups Sm);have hb':=Sm _ _ hb;have hmb':=Sm _ _ hmb;have mt:t∈ts:=Qk et;have few:=Wt.few ok wt;have sl:=av ps
  have sf:sv.length<=10:=by
   rw[sl];unfold bT;rw[Qb];refine QJ (XU _ _) ?_;rw[QO];omega
  have big:1000<sizeLine:=by decide
  lk;refine⟨l,mb,ta,as,r,p.1,t,rfl,at'.arcs,ok,hmb',po.m,tu,λH2 S2=>⟨_,rfl,?_⟩⟩
  have et':(ts.take i).filter (cK r.arcs p.1)++(if cK r.arcs p.1 t=true then [t] else [])=(ts.take (i+1)).filter (cK r.arcs p.1):=by
   rw[XH,et,List.filter_append];congr 1;cases c:cK r.arcs p.1 t <;> simp[c]
  cases c:cK r.arcs p.1 t
  ·refine iteF (s_next ⟨⟨_,rfl⟩,Sm.trans S2,λb xs e=>S2 _ _ (kt b xs e),S2 _ _ hq',sv,S2 _ _ hL',?_⟩);rw[c,Qo Qr,List.append_nil]at et';unfold bT;rw[<-et'];exact ag (λ_ _ h=>h.kt (aj.tups S2)) ps
  refine cu ?_;rw[c,Qs rfl]at et';have hL2:=S2 _ _ hL';have hb2:=S2 _ _ hb';lk;refine⟨l,mb,ta,as,r,p.1,t,rfl,at'.arcs.same S2,ok,S2 _ _ hmb',po.m,tu.kt (aj.tups S2),λm2 H3 S3 hm2=>?_⟩;have hb3:=S3 _ _ hb2;have S23:=S2.trans S3;have hta3:=S23 _ _ hta;lk;refine⟨a,li,lo,l,as,r,p.2,t.1,rfl,at'.same S23,ok,po.z,(Wt.ok ok wt mt).1,λH4 S4=>?_⟩;lk;refine⟨by simp[sizeLine],λp5 h5=>?_⟩;generalize hE5:upd H4 p5 _=H5;obtain⟨S5,q5⟩:=ak h5 hE5;lk;refine⟨by simp[sizeLine],λp6 h6=>?_⟩;generalize hE6:upd H5 p6 _=H6;obtain⟨S6,q6⟩:=ak h6 hE6;have S46:=(S23.trans S4).trans (S5.trans S6);have hL6:=S46 _ _ hL';refine aZ (eQ hL6 (by omega) (s_next ?_));have ktu:=cM (o:=.lst (sv++[.ref p6])) hL6;refine⟨⟨_,rfl⟩,bu (Sm.trans S46) hL,λb xs e=>ktu _ _ (S46 _ _ (kt b xs e)),by rw[ah nLq.symm];exact S46 _ _ hq',_,af,?_⟩;unfold bT;rw[<-et',QI];refine ba (ag (λ_ _ h=>(h.kt (aj.tups S46)).kt ktu) ps) ?_;exact⟨p6,_,_,rfl,ktu _ _ q6,(tu.kt (aj.tups S46)).kt ktu,p5,m2,rfl,ktu _ _ (S6 _ _ q5),ktu _ _ (S6 _ _ (S5 _ _ (S4 _ _ hm2)))⟩
 obtain⟨⟨x0,rfl⟩,Sm,kt,hq',sv,hL',ps⟩:=h;rw[QV (Nat.le_of_eq (av pt).symm)]at ps;exact s_ret (aE rfl (k L sv ts H' Sm hL hL' wt ps))
theorem mB:FnScope ["ring_sheet", "place", "step", "turn", "sign"] ["ring_sheet", "place", "step"] (au (top 34)):=by fin2
theorem zg {f:Addr} {fd:FuncData} (Fu:Fun K "odd_word" "odd_word" (top 34) f fd) (T:Txt K mg TT):FnOk P w K mg base CX0 2 f fd ["ring_sheet", "place", "step"] xY:=by
 have S:=mB;refine Fu.ok S (by room) (λcdv A outer s H vs Q E hr h=>?_);obtain⟨a,li,lo,l,as,r,v,u,p,sp,rfl,at_,ok,pa,po,sa,tok,k⟩:=h;have hu:=cV hr;obtain⟨SA,tS1,tS2⟩:=T.sA;obtain⟨b,mb,rfl,hb,hmb⟩:=id pa;obtain⟨c,v1,v2,rfl,hc,t1,p2⟩:=id sa;obtain⟨d,rfl,hd⟩:=id t1;obtain⟨e,me,rfl,he,hme⟩:=id p2
 refine⟨_,(aK (aG 3 S.nd (am aA (pv 2) ae))
  (aK (aG 4 S.nd (am dD (am aA (pv 1) ae) (bO QE Xk Xl gi (aO eD (am aA (pv 0) ae) (am aA (pv 0) ae)) (aa (am aA (pv 3) ae) ac))))
  (aK (ps_if (aC iQ (pv 4) (am (zu tS2) (c_ (v:=.ref SA) (by rfl) tS1 rfl) (am aA (pv 3) ae)) (aF _)) (aI (aD bj)) pss_nil)
  (aI (aD (mQ (aC df ae (am aA (am aA (pv 2) ae) ae) rfl) bj o8)))))),?_⟩
 x_go;have ha:=at_.ha;lk;have w5:=ok.w5;have big:1000<sizeLine:=by decide
 have lw:(r.ins.map V.str).length+(r.outs.map V.str).length=r.ws.length:=by rw[Qb,Qb];unfold Rg.ws;rw[Qh]
 refine gv at_.hi at_.ho (by rw[lw];omega) λp1 hp1=>?_;rw[<-QI];generalize hE:upd H p1 _=H1;obtain⟨S1,q1⟩:=ak hp1 hE;have k:=k H1 S1;have hc:=S1 _ _ hc;have hd:=S1 _ _ hd;have he:=S1 _ _ he;have hme:=S1 _ _ hme;refine⟨i_tyL q1,?_⟩;lk;refine⟨p1,r.ws,sp.1.1,r.ws.idxOf sp.1.1,rfl,rfl,q1,lD tok.1,fq,by omega,?_⟩;have il:=QS tok.1;have hz:=po.z.len;refine ff (by show p.2.cps.size<=_;omega) (lK po.z il) ?_;have es:=kO po.z il;unfold f9 at es;rw[es];lk
 have key:∀(G:VK),(G (.bl (decide (sgB p.2 (r.ws.idxOf sp.1.1)=decide (sp.1.2 = "+")))) H1)->uv SA (.ref SA) (.str sp.1.2) H1 λy H2=>rNe (sg (p.2.cps.getD (r.ws.idxOf sp.1.1) 0==49)) y H2 G:=λG g=>by
  unfold sgB at g;rcases tok.2 with e|e
  ·rw[e]at g ⊢;refine⟨rfl,.inl ⟨rfl,?_⟩⟩;cases c:(p.2.cps.getD (r.ws.idxOf sp.1.1) 0==49)
   ·rw[c]at g;exact i_ne rfl g
   rw[c]at g;exact i_ne rfl g
  rw[e]at g ⊢;refine⟨rfl,.inr ⟨rfl,?_⟩⟩;cases c:(p.2.cps.getD (r.ws.idxOf sp.1.1) 0==49)
  ·rw[c]at g;exact i_ne rfl g
  rw[c]at g;exact i_ne rfl g
 refine key _ ⟨_,rfl,?_⟩;unfold dy at k;by_cases c1:sgB p.2 (r.ws.idxOf sp.1.1)=decide (sp.1.2 = "+")
 ·rw[Qs c1]at k;refine ifT (Qv c1) ?_;lk;exact k
 rw[Qo c1]at k;refine ifF (Qu c1) ?_;lk;refine⟨me,_,rfl,.inr (SqT.of hme),rfl,fz _,_,rfl,?_⟩;by_cases c2:2∈sp.2.1
 ·rw[Qs c2]at k;refine ifT (eI.mpr c2) ?_;lk;exact k
 rw[Qo c2]at k;refine ifF (Bool.eq_false_iff.mpr λz=>c2 (eI.mp z)) ?_;lk;exact k
end
abbrev Nd:=List (Str × Nat)
inductive Res where
 | odd (way:List Tu) (word:Str)
 | many
 | sheet (nodes:List Nd)
structure Sx where
 ps:List Pl
 ws:List (List Tu)
noncomputable def bM (r:Rg) (row:Str) (way:List Tu):List Sp1->Sx->Nd->Res ⊕ (Sx × Nd)
 | [],x,nd=>.inr (x,nd)
 | s::ss,x,nd=>match dy r row s with
  | some w=>.inl (.odd (way++[s.1]) w)
  | none=>if s.2∈x.ps then bM r row way ss x (nd++[(s.1.1,x.ps.idxOf s.2)])
   else if x.ps.length=40 then .inl .many
   else bM r row way ss ⟨x.ps++[s.2],x.ws++[way++[s.1]]⟩ (nd++[(s.1.1,x.ps.length)])
def Sx.p (x:Sx) (i:Nat):Pl:=x.ps.getD i ([],Str.empty)
def Sx.wy (x:Sx) (i:Nat):List Tu:=x.ws.getD i []
noncomputable def outer (r:Rg) (ts:List Tu):Nat->Sx->List Nd->Res
 | 0,_,_=>.many
 | f+1,x,nds=>if nds.length<x.ps.length then
   match bM r (x.p nds.length).2 (x.wy nds.length) (bT r ts (x.p nds.length)) x [] with
   | .inl res=>res
   | .inr (x',nd)=>outer r ts f x' (nds++[nd])
  else .sheet nds
def Sx.first (r:Rg):Sx:=⟨[(mks r.arcs,r.z)],[[]]⟩
def unf (r:Rg) (ts:List Tu):Res:=outer r ts 41 (Sx.first r) []
theorem sK {x y z:Tu} (h1:leT x y) (h2:leT y z):leT x z:=by
 have h1:Tm.lb (Tm.flat (tk2 y)) (Tm.flat (tk2 x))=false:=h1;have h2:Tm.lb (Tm.flat (tk2 z)) (Tm.flat (tk2 y))=false:=h2;show Tm.lb (Tm.flat (tk2 z)) (Tm.flat (tk2 x))=false
 cases c:Tm.lb (Tm.flat (tk2 z)) (Tm.flat (tk2 x)) with
 | false=>rfl
 | true =>
 rcases Tm.lj (Tm.flat (tk2 z)) (Tm.flat (tk2 y)) with h|h|h
 ·rw[h2]at h;cases h
 ·rw[h,h1]at c;cases c
 rw[Tm.fc h c]at h1;cases h1
theorem Ba (xs:List Tu):∃us:List Tu,us.Nodup/\∀x,x∈us↔x∈xs:=by
 induction xs with
 | nil=>exact⟨[],.nil,λx=>Iff.rfl⟩
 | cons x xs ih =>
 obtain⟨us,nd,mm⟩:=ih;by_cases h:x∈us
 ·exact⟨us,nd,λy=>by rw[mm,Qj];exact⟨.inr,λz=>z.elim (λz=>z▸(mm x).mp h) id⟩⟩
 exact⟨x::us,QU.mpr ⟨h,nd⟩,λy=>by rw[Qj,Qj,mm]⟩
theorem zS (r:Rg):∃ts,Wt r ts:=by
 obtain⟨us,nd,mm⟩:=Ba (r.arcs.map (·.two));have pm:=List.mergeSort_perm us (λx y=>!Tm.lb (Tm.flat (tk2 y)) (Tm.flat (tk2 x)));refine⟨us.mergeSort (λx y=>!Tm.lb (Tm.flat (tk2 y)) (Tm.flat (tk2 x))),pm.nodup_iff.mpr nd,λx=>?_,?_⟩
 ·rw[pm.mem_iff,mm,Qm]
 refine(List.pairwise_mergeSort (λa b c h1 h2=>?_) (λa b=>?_) us).imp λ{a b} h=>?_
 ·rw[Bool.not_eq_true']at h1 h2 ⊢;exact sK (x:=a) (y:=b) (z:=c) h1 h2
 ·rw[Bool.or_eq_true,Bool.not_eq_true',Bool.not_eq_true'];exact Tm.sL _ _
 rw[Bool.not_eq_true']at h;exact h
variable {ms:List Int}
theorem u_ {t:Tu} (h:ms.length=as.length):(dH as ms t).length=as.length:=by
 unfold dH;rw[Qb,List.length_zip];omega
theorem l7 {p:Pl} {t:Tu} (po:PlOk r p) (tok:dF r.ws t) (may:cK r.arcs p.1 t=true) (no2:2∉(aW r p t).2.1):PlOk r (aW r p t).2:=by
 refine⟨⟨u_ po.m.len,λm hm=>?_⟩,dJ po.z (QS tok.1)⟩;have h2:m≠2:=λz=>no2 (z▸hm);have hm:m∈dH r.arcs p.1 t:=hm;unfold dH at hm;obtain⟨⟨a,n⟩,hz,rfl⟩:=Qm.mp hm;have hn:=po.m.m n (List.of_mem_zip hz).2;have hp:=QT.mp may _ hz;dsimp only at hp h2 ⊢;unfold mkB at h2 ⊢;by_cases c1:a.one=t
 ·rw[Qs c1]at h2 ⊢;omega
 rw[Qo c1]at h2 ⊢;by_cases c2:a.two=t
 ·rw[Qs c2]at h2 ⊢;rw[Qv c2,X1,Bool.false_or,decide_eq_true_eq]at hp;omega
 rw[Qo c2];exact hn
def Sx.Ok (r:Rg) (x:Sx):Prop:=x.ws.length=x.ps.length/\1<=x.ps.length/\x.ps.length<=40/\(∀p∈x.ps,PlOk r p)/\∀w∈x.ws,w.length<x.ws.length
theorem Sx.p_mem {x:Sx} (h:i<x.ps.length):x.ps[i]?=some (x.p i):=by
 unfold Sx.p;rw[Qx,Qe h];rfl
theorem Sx.w_mem {x:Sx} {i:Nat} (h:i<x.ws.length):x.ws[i]?=some (x.wy i):=by
 unfold Sx.wy;rw[Qx,Qe h];rfl
theorem pE (ok:RgOk r):PlOk r (mks r.arcs,r.z):=by
 refine⟨⟨Qb ..,λm hm=>?_⟩,ok.st⟩;obtain⟨a,ha,rfl⟩:=Qm.mp hm;exact(ok.arcs a ha).m
theorem vP (ok:RgOk r):(Sx.first r).Ok r:=⟨rfl,Qg _,(by decide:1<=40),λp hp=>by cases Qy.mp hp;exact pE ok,λw hw=>by cases Qy.mp hw;exact Nat.zero_lt_one⟩
def tkP (p:Pl):aB:=[.inr (p.1.map Sum.inl),.inl (.inr p.2)]
theorem rh:∀{xs ys:List Int},xs.map (Sum.inl:Int->Key)=ys.map Sum.inl->xs=ys
 | [],[],_=>rfl
 | [],_::_,h=>by simp at h
 | _::_,[],h=>by simp at h
 | x::xs,y::ys,h=>by
  rw[Qw,Qw]at h;injection h with h1 h2;rw[Sum.inl.inj h1,rh h2]
theorem ql {x y:Pl} (h:tkP x=tkP y):x=y:=by
 unfold tkP at h;simp only[List.cons.injEq,Sum.inl.injEq,Sum.inr.injEq]at h;exact Prod.ext (rh h.1) h.2.1
theorem PlA.tk {p:Pl} (h:PlA H (.ref b) p):bS H (tkP p) b:=by
 obtain⟨_,mb,e,q,q2⟩:=h;cases e;refine⟨_,q,.cons ⟨mb,rfl,?_⟩ (.cons rfl .nil)⟩;rw[q2,Q3];rfl
def rL (H:Hp) (a:Addr) (ps:List Pl):Prop:=∃kvs,H a=some (.dT kvs)/\kvs.length<=ps.length/\∀p,aU kvs (tkP p)=if p∈ps then some (.int (ps.idxOf p:Nat)) else none
theorem wW (p:Pl) (h:H a=some (.dT [(tkP p,.int 0)])):rL H a [p]:=by
 refine⟨_,h,Qg _,λq=>?_⟩;by_cases c:q=p
 ·subst c;rw[bz rfl,Qs (by simp)];simp
 rw[bD (λz=>c (ql z).symm),Qo (by simpa using c)];rfl
variable {ps e:List Pl} {kvs:List (aB × V)}
theorem wU {p:Pl} (hp:p∉ps) (hv:∀p,aU kvs (tkP p)=if p∈ps then some (.int (ps.idxOf p:Nat)) else none) (q:Pl):aU (bv kvs (tkP p) (.int (ps.length:Nat))) (tkP q)=if q∈ps++[p] then some (.int ((ps++[p]).idxOf q:Nat)) else none:=by
 rw[cR,hv,List.idxOf_append];by_cases c:q=p
 ·subst c;rw[Qs rfl,Qs (by simp),Qo hp];simp
 rw[Qo (λz=>c (ql z))];by_cases d:q∈ps
 ·rw[Qs d,Qs (by simp[d]),Qs d]
 rw[Qo d,Qo (by simp[c,d])]
def SgA (H:Hp) (v:V) (p:Str × Nat):Prop:=∃b,v=.ref b/\H b=some (.tup [.str p.1,.int (p.2:Int)])
def lR (H:Hp) (l:Addr) (nd:Nd):Prop:=∃vs,H l=some (.lst vs)/\Paired (SgA H) vs nd
def jC (H:Hp) (l:Addr) (w:List Tu):Prop:=∃vs,H l=some (.lst vs)/\Paired (TuA H) vs w
theorem SgA.kt {p:Str × Nat} (k:bh H H') (h:SgA H v p):SgA H' v p:=let ⟨b,e,q⟩:=h;⟨b,e,k _ _ q⟩
theorem lR.keep {nd:Nd} (k:bh H H') (kl:∀vs,H l=some (.lst vs)->H' l=some (.lst vs)) (h:lR H l nd):lR H' l nd:=let ⟨vs,e,q⟩:=h;⟨vs,kl _ e,ag (λ_ _ h=>h.kt k) q⟩
theorem jC.keep {w:List Tu} (k:bh H H') (kl:∀vs,H l=some (.lst vs)->H' l=some (.lst vs)) (h:jC H l w):jC H' l w:=let ⟨vs,e,q⟩:=h;⟨vs,kl _ e,ag (λ_ _ h=>h.kt k) q⟩
noncomputable def A3 (H0 H:Hp) (v:V) (r:Rg):Res->Prop
 | .odd way w=>∃a l,v=.ref a/\H a=some (.tup [.str "odd", .ref l,.str w])/\H0 l=none/\jC H l way
 | .many=>∃a,v=.ref a/\H a=some (.tup [.str "many"])
 | .sheet nds=>∃(a s li lo ln:Addr) (nas:B3),v=.ref a/\H a=some (.tup [.str "sheet", .ref s])/\H s=some (.tup [.ref li,.ref lo,.str r.z,.ref ln])/\H li=some (.lst (r.ins.map V.str))/\H lo=some (.lst (r.outs.map V.str))/\H ln=some (.lst (nas.map V.ref))/\Paired (lR H) nas nds/\(li::lo::ln::nas).Nodup/\∀b∈li::lo::ln::nas,H0 b=none
def xW:Sp:=λvs H Q _=>∃(a li lo l:Addr) (as:List V) (r:Rg),vs=[.ref a]/\RgA H a li lo l as r/\RgOk r/\∀v ts H',aj H H'->Wt r ts->A3 H H' v r (unf r ts)->Q v H'
theorem yk {Os:B3} (no:∀b∈Os,∀ys,H b≠some (.tup ys)) (kb:∀b o,H b=some o->b∉Os->H' b=some o):bh H H':=λb ys e=>kb b _ e λz=>no b z ys e
theorem bH {α β:Type} {F G:α->β->Prop}:∀{xs:List α} {ys:List β},Paired F xs ys->(∀a b,a∈xs->F a b->G a b)->Paired G xs ys
 | _,_,.nil,_=>.nil
 | _,_,.cons r t,h=>.cons (h _ _ (by simp) r) (bH t λa b ha=>h a b (Qn _ ha))
structure UI (H0 H:Hp) (Lp Ln Lw Lo:Addr) (x:Sx) (pv:List V) (was nas:B3) (nds:List Nd):Prop where
 s:aj H0 H
 p:H Lp=some (.lst pv)
 pp:Paired (PlA H) pv x.ps
 n:rL H Ln x.ps
 w:H Lw=some (.lst (was.map V.ref))
 wp:Paired (jC H) was x.ws
 o:H Lo=some (.lst (nas.map V.ref))
 op:Paired (lR H) nas nds
 ap:∀b∈was++nas,b∉[Lp,Ln,Lw,Lo]
 nd:nas.Nodup
 nw:∀b∈nas,H0 b=none
 dl:[Lp,Ln,Lw,Lo].Nodup
 new:∀b∈[Lp,Ln,Lw,Lo],H0 b=none
section
variable {H0 H H':Hp} {Lp Ln Lw Lo:Addr} {x:Sx} {pv:List V} {was nas:B3} {nds:List Nd}
theorem UI.keep {N:Addr} (u:UI H0 H Lp Ln Lw Lo x pv was nas nds) (s:aj H0 H') (kt:bh H H') (kb:∀b o,H b=some o->b≠N->H' b=some o) (n:N∉Lp::Ln::Lw::Lo::(was++nas)):UI H0 H' Lp Ln Lw Lo x pv was nas nds:=by
 have ne:∀b∈Lp::Ln::Lw::Lo::(was++nas),b≠N:=λb hb z=>n (z▸hb);have inn:∀b∈was++nas,b≠N:=λb hb=>ne b (by simp only[Qj];exact .inr (.inr (.inr (.inr hb))));refine⟨s,kb _ _ u.p (ne _ (by simp)),ag (λ_ _ h=>h.kt kt) u.pp,?_,kb _ _ u.w (ne _ (by simp)),?_,kb _ _ u.o (ne _ (by simp)),?_,u.ap,u.nd,u.nw,u.dl,u.new⟩
 ·obtain⟨kvs,h,r⟩:=u.n;exact⟨kvs,kb _ _ h (ne _ (by simp)),r⟩
 ·exact bH u.wp λb w hb h=>h.keep kt λvs e=>kb _ _ e (inn b (Xb _ hb))
 exact bH u.op λb w hb h=>h.keep kt λvs e=>kb _ _ e (inn b (QH _ hb))
theorem UI.same (u:UI H0 H Lp Ln Lw Lo x pv was nas nds) (S:aj H H'):UI H0 H' Lp Ln Lw Lo x pv was nas nds:=by
 refine⟨u.s.trans S,S _ _ u.p,ag (λ_ _ h=>h.kt (aj.tups S)) u.pp,?_,S _ _ u.w,?_,S _ _ u.o,?_,u.ap,u.nd,u.nw,u.dl,u.new⟩
 ·obtain⟨kvs,h,r⟩:=u.n;exact⟨kvs,S _ _ h,r⟩
 ·exact ag (λb w h=>h.keep (aj.tups S) λvs e=>S _ _ e) u.wp
 exact ag (λb w h=>h.keep (aj.tups S) λvs e=>S _ _ e) u.op
theorem UI.more {p:Pl} {w:List Tu} {v:V} {wl:Addr} (u:UI H0 H Lp Ln Lw Lo x pv was nas nds) (kb:∀b o,H b=some o->b∉[Lp,Ln,Lw]->H' b=some o) (hp:H' Lp=some (.lst (pv++[v]))) (pa:PlA H' v p) (hn:rL H' Ln (x.ps++[p])) (hw:H' Lw=some (.lst ((was++[wl]).map V.ref))) (wy:jC H' wl w) (nw:H wl=none) :
  bh H H'/\UI H0 H' Lp Ln Lw Lo ⟨x.ps++[p],x.ws++[w]⟩ (pv++[v]) (was++[wl]) nas nds:=by
 obtain⟨kvs,en,_⟩:=id u.n;have dl:=u.dl;simp only[QU,Qj,QA,Xj,not_or]at dl
 have kt:bh H H':=yk (Os:=[Lp,Ln,Lw]) (λb hb ys e=>by
  simp only[Qj,QA,Xj]at hb;rcases hb with rfl|rfl|rfl
  ·rw[u.p]at e;cases e
  ·rw[en]at e;cases e
  rw[u.w]at e;cases e) kb
 have kb':∀b o,H b=some o->b∉[Lp,Ln,Lw,Lo]->H' b=some o:=λb o e n=>kb b o e λz=>n (by simp only[Qj,QA,Xj]at z ⊢;rcases z with z|z|z <;> simp[z]);refine⟨kt,λb o e=>kb b o (u.s _ _ e) λz=>?_,hp,ba (ag (λ_ _ h=>h.kt kt) u.pp) pa,hn,hw,ba (bH u.wp λb w hb h=>h.keep kt λvs e=>kb' _ _ e (u.ap b (Xb _ hb))) wy,kb _ _ u.o (by simp only[Qj,QA,Xj,not_or];exact⟨λz=>dl.1.2.2 z.symm,λz=>dl.2.1.2 z.symm,λz=>dl.2.2.1 z.symm⟩),bH u.op λb w hb h=>h.keep kt λvs e=>kb' _ _ e (u.ap b (QH _ hb)),λb hb=>?_,u.nd,u.nw,u.dl,u.new⟩
 ·rw[u.new b (by simp only[Qj,QA,Xj]at z ⊢;rcases z with z|z|z <;> simp[z])]at e;cases e
 rw[XX,Qz,Qz,Qy]at hb;rcases hb with hb|rfl|hb
 ·exact u.ap b (Xb _ hb)
 ·intro z;simp only[Qj,QA,Xj]at z;rcases z with rfl|rfl|rfl|rfl
  ·rw[u.p]at nw;cases nw
  ·rw[en]at nw;cases nw
  ·rw[u.w]at nw;cases nw
  rw[u.o]at nw;cases nw
 exact u.ap b (QH _ hb)
theorem UI.node {N:Addr} {nd:Nd} (u:UI H0 H Lp Ln Lw Lo x pv was nas nds) (at_:lR H N nd) (n:N∉Lp::Ln::Lw::Lo::(was++nas)) (h0:H0 N=none):UI H0 (upd H Lo (.lst ((nas++[N]).map V.ref))) Lp Ln Lw Lo x pv was (nas++[N]) (nds++[nd]):=by
 obtain⟨kvs,en,r⟩:=id u.n;have dl:=u.dl;simp only[QU,Qj,QA,Xj,not_or]at dl;have kt:bh H (upd H Lo (.lst ((nas++[N]).map V.ref))):=cM u.o;have kb:∀b o,H b=some o->b≠Lo->upd H Lo (.lst ((nas++[N]).map V.ref)) b=some o:=λb o e z=>by rw[ah z];exact e
 simp only[Qj,not_or]at n;have inn:∀b∈was++nas,b≠Lo:=λb hb z=>u.ap b hb (by rw[z];simp);refine⟨λb o e=>kb b o (u.s _ _ e) λz=>?_,kb _ _ u.p dl.1.2.2,ag (λ_ _ h=>h.kt kt) u.pp,⟨kvs,kb _ _ en dl.2.1.2,r⟩,kb _ _ u.w dl.2.2.1,bH u.wp λb w hb h=>h.keep kt λvs e=>kb _ _ e (inn b (Xb _ hb)),af,ba (bH u.op λb w hb h=>h.keep kt λvs e=>kb _ _ e (inn b (QH _ hb))) (at_.keep kt λvs e=>kb _ _ e n.2.2.2.1),λb hb=>?_,?_,λb hb=>?_,u.dl,u.new⟩
 ·rw[z,u.new Lo (by simp)]at e;cases e
 ·rw[<-XX,Qz,Qy]at hb;rcases hb with hb|rfl
  ·exact u.ap b hb
  simp only[Qj,QA,Xj,not_or];exact⟨n.1,n.2.1,n.2.2.1,n.2.2.2.1⟩
 ·rw[X4];refine⟨u.nd,by simp,λa ha b hb=>?_⟩;rw[Qy.mp hb];exact λz=>n.2.2.2.2 (QH _ (z▸ha))
 rcases Qz.mp hb with hb|hb
 ·exact u.nw b hb
 rw[Qy.mp hb];exact h0
end
structure IV (H0 Hs H:Hp) (Lp Ln Lw Lo N q:Addr) (r:Rg) (x:Sx) (pv:List V) (was nas:B3) (nds:List Nd) (p:Pl) (way:List Tu) (sv ndv:List V) (nd:Nd):Prop where
 u:UI H0 H Lp Ln Lw Lo x pv was nas nds
 xo:x.Ok r
 kt:bh Hs H
 hq:H q=some (.lst sv)
 hN:H N=some (.lst ndv)
 pn:Paired (SgA H) ndv nd
 nN:N∉Lp::Ln::Lw::Lo::(was++nas)
 nq:q∉[Lp,Ln,Lw,N]
 gp:x.ps[nds.length]?=some p
 gw:x.ws[nds.length]?=some way
 N0:H0 N=none
section
variable {H0 Hs H H':Hp} {Lp Ln Lw Lo N q:Addr} {r:Rg} {x:Sx} {pv:List V} {was nas:B3} {nds:List Nd} {p:Pl} {way:List Tu} {sv ndv:List V} {nd:Nd}
theorem IV.same (i:IV H0 Hs H Lp Ln Lw Lo N q r x pv was nas nds p way sv ndv nd) (S:aj H H'):IV H0 Hs H' Lp Ln Lw Lo N q r x pv was nas nds p way sv ndv nd :=
 ⟨i.u.same S,i.xo,λb ys e=>S _ _ (i.kt b ys e),S _ _ i.hq,S _ _ i.hN,ag (λ_ _ h=>h.kt (aj.tups S)) i.pn,i.nN,i.nq,i.gp,i.gw,i.N0⟩
theorem IV.put {v:V} {e:Str × Nat} (i:IV H0 Hs H Lp Ln Lw Lo N q r x pv was nas nds p way sv ndv nd) (h:SgA H v e):IV H0 Hs (upd H N (.lst (ndv++[v]))) Lp Ln Lw Lo N q r x pv was nas nds p way sv (ndv++[v]) (nd++[e]):=by
 have kt:bh H (upd H N (.lst (ndv++[v]))):=cM i.hN;have kb:∀b o,H b=some o->b≠N->upd H N (.lst (ndv++[v])) b=some o:=λb o e z=>by rw[ah z];exact e
 have nq:=i.nq;simp only[Qj,QA,Xj,not_or]at nq;exact⟨i.u.keep (bu i.u.s i.N0) kt kb i.nN,i.xo,λb ys e=>kt _ _ (i.kt b ys e),kb _ _ i.hq nq.2.2.2,af,ba (ag (λ_ _ h=>h.kt kt) i.pn) (h.kt kt),i.nN,i.nq,i.gp,i.gw,i.N0⟩
theorem IV.more {p':Pl} {w':List Tu} {v:V} {wl:Addr} (i:IV H0 Hs H Lp Ln Lw Lo N q r x pv was nas nds p way sv ndv nd) (xo:Sx.Ok r ⟨x.ps++[p'],x.ws++[w']⟩) (kb:∀b o,H b=some o->b∉[Lp,Ln,Lw]->H' b=some o) (hp:H' Lp=some (.lst (pv++[v]))) (pa:PlA H' v p') (hn:rL H' Ln (x.ps++[p'])) (hw:H' Lw=some (.lst ((was++[wl]).map V.ref))) (wy:jC H' wl w') (nw:H wl=none) :
  bh H H'/\IV H0 Hs H' Lp Ln Lw Lo N q r ⟨x.ps++[p'],x.ws++[w']⟩ (pv++[v]) (was++[wl]) nas nds p way sv ndv nd:=by
 obtain⟨kt,u'⟩:=i.u.more kb hp pa hn hw wy nw;have nq:=i.nq;have nN:=i.nN;simp only[Qj,Qz,QA,Xj,not_or]at nq nN;refine⟨kt,u',xo,λb ys e=>kt _ _ (i.kt b ys e),kb _ _ i.hq (by simp only[Qj,QA,Xj,not_or];exact⟨nq.1,nq.2.1,nq.2.2.1⟩),kb _ _ i.hN (by simp only[Qj,QA,Xj,not_or];exact⟨nN.1,nN.2.1,nN.2.2.1⟩),ag (λ_ _ h=>h.kt kt) i.pn,?_,i.nq,?_,?_,i.N0⟩
 ·simp only[Qj,Qz,QA,Xj,not_or];exact⟨nN.1,nN.2.1,nN.2.2.1,nN.2.2.2.1,⟨nN.2.2.2.2.1,(aJ i.hN nw).symm⟩,nN.2.2.2.2.2⟩
 ·rw[QC (Qd.mp i.gp).1];exact i.gp
 rw[QC (Qd.mp i.gw).1];exact i.gw
end
section
theorem mo:FnScope ["ring_sheet", "places", "numbers", "ways", "nodes", "at", "node", "step", "word"] ["ring_sheet"] (au (top 35)):=by fin2
theorem zd {f:Addr} {fd:FuncData} (Fu:Fun K "unfolded" "unfolded" (top 35) f fd) (T:Txt K mg TT) (f_first_marks:Fn P w K mg base "first_marks" ["arcs"] 2 qE) (f_steps_at:Fn P w K mg base "steps_at" ["ring_sheet", "place"] 4 qx) (f_odd_word:Fn P w K mg base "odd_word" ["ring_sheet", "place", "step"] 2 xY):FnOk P w K mg base CX0 5 f fd ["ring_sheet"] xW:=by
 have S:=mo;refine Fu.ok S (by room) (λcdv A outer s H vs Q E hr h=>?_);obtain⟨a,li,lo,l,as,r,rfl,at_,ok,k⟩:=h;have hu:=cV hr;obtain⟨_,gMN⟩:=T.mNODES;have ha:=at_.ha;obtain⟨ts,wt⟩:=zS r;refine'⟨?_,?bb,?_⟩
 case bb =>
  walk_at "b";refine' aG 1 S.nd ?e
  case e =>
   walk_at "q";exact(aM f_first_marks hr (aa (am aA (pv 0) ae) ac se_sub));exact(am aA (pv 0) ae)
  exact aG 2 S.nd (uK hu (am aX (pv 1) ae) ae);refine' aG 3 S.nd ?e
  case e =>
   walk_at "q"
  exact aG 4 S.nd (pe_lst ac);refine' ge PassesOwn.never ?_ ?_;rotate_left 2;exact(aC jU (aq ay (by rfl) T.n_len QL (aa (pv 4) ac ad)) (aq ay (by rfl) T.n_len QL (aa (pv 1) ac ad)) (aF _));walk_at "p";exact aG 5 S.nd (aq ay (by rfl) T.n_len QL (aa (pv 4) ac ad));exact aG 6 S.nd (pe_lst ac);walk_at "f";exact(bi (aM f_steps_at hr (aa (pv 0) (aa (am aX (pv 1) (pv 5)) ac) ad)));exact(bB 7 S.nd);walk_at "p";exact aG 8 S.nd (aM f_odd_word hr (aa (pv 0) (aa (am aX (pv 1) (pv 5)) (aa (pv 7) ac ad)) ad));exact(aC wB (pv 8) o8 rfl);refine' aD ?e
  case e =>
   walk_at "q";exact(aO eD (am aX (pv 3) (pv 5)) (pe_lst (aa (am aA (pv 7) ae) ac se_sub)));exact(pv 8)
  exact(uw (jS hu (am aA (pv 7) ae) (pv 2)));exact(aC cC (aq ay (by rfl) T.n_len QL (aa (pv 1) ac ad)) (c_ (v:=.int 40) (by rfl) gMN ⟨_,rfl⟩) (aF _));exact(aD (pe_tup (aa bj ac aP)));exact(eB hu (pv 2) (am aA (pv 7) ae) (aq ay (by rfl) T.n_len QL (aa (pv 1) ac ad)) rfl);exact(bZ (bO QE Q0 Q2 bt (pv 1) (aa (am aA (pv 7) ae) ac)));refine' bZ (bO QE Q0 Q2 bt (pv 3) ?a)
  case a =>
   walk_at "q";exact(aO eD (am aX (pv 3) (pv 5)) (pe_lst (aa (am aA (pv 7) ae) ac se_sub)))
  refine' bZ (bO QE Q0 Q2 bt (pv 6) ?a)
  case a =>
   walk_at "q";exact(am aA (am aA (pv 7) ae) ae);exact(dL hu (pv 2) (am aA (pv 7) ae))
  exact(bZ (bO QE Q0 Q2 bt (pv 4) (aa (pv 6) ac ad)));refine' aD ?e
  case e =>
   walk_at "q";exact(bp eL (by rfl) T.n_list PyProof.Rows.boot_list (aa (am aA (pv 0) ae) ac));exact(bp eL (by rfl) T.n_list PyProof.Rows.boot_list (aa (am aA (pv 0) ae) ac));exact(am aA (pv 0) ae);exact(pv 4)
 x_go;lk;refine⟨l,as,r,rfl,at_.arcs,ok,λm0 H1 S1 hm0=>?_⟩;have ha1:=S1 _ _ ha;lk;refine⟨by simp[sizeLine],λp0 hp0=>?_⟩;generalize hE:upd H1 p0 _=H2;obtain⟨S2,q2⟩:=ak hp0 hE;lk;refine⟨by simp[sizeLine],λLp hLp=>?_⟩;generalize hE:upd H2 Lp _=H3;obtain⟨S3,q3⟩:=ak hLp hE;refine λLn hLn=>?_;generalize hE:upd H3 Ln _=H4;obtain⟨S4,q4⟩:=ak hLn hE;have q34:=S4 _ _ q3;lk;have ep:bh H2 H4:=aj.tups (S3.trans S4);have pl0:PlA H2 (.ref p0) (mks r.arcs,r.z):=⟨p0,m0,rfl,q2,S2 _ _ hm0⟩;refine⟨q4,p0,_,rfl,(pl0.kt ep).tk,?_⟩;generalize hE:upd H4 Ln _=H5;have q5:H5 Ln=some (.dT [(tkP (mks r.arcs,r.z),.int 0)]):=by rw[<-hE];exact af
 have S5:aj H3 H5:=by rw[<-hE];exact bu S4 hLn
 lk;refine⟨by simp[sizeLine],λw0 hw0=>?_⟩;generalize hE:upd H5 w0 _=H6;obtain⟨S6,q6⟩:=ak hw0 hE;lk;refine⟨by simp[sizeLine],λLw hLw=>?_⟩;generalize hE:upd H6 Lw _=H7;obtain⟨S7,q7⟩:=ak hLw hE;lk;refine⟨by simp[sizeLine],λLo hLo=>?_⟩;generalize hE:upd H7 Lo _=H8;obtain⟨S8,q8⟩:=ak hLo hE
 have ui:UI H H8 Lp Ln Lw Lo (Sx.first r) [.ref p0] [w0] [] []:=by
  have S68:=(S6.trans S7).trans S8;have S38:=S5.trans S68;have n1:Ln≠Lp:=aJ q3 hLn;have n2:Lw≠Lp:=aJ (S6 _ _ (S5 _ _ q3)) hLw;have n3:Lo≠Lp:=aJ (S7 _ _ (S6 _ _ (S5 _ _ q3))) hLo;have n4:Lw≠Ln:=aJ (S6 _ _ q5) hLw;have n5:Lo≠Ln:=aJ (S7 _ _ (S6 _ _ q5)) hLo;have n6:Lo≠Lw:=aJ q7 hLo;refine⟨((S1.trans S2).trans S3).trans S38,S38 _ _ q3,.cons (pl0.kt (aj.tups (S3.trans S38))) .nil,wW _ (S68 _ _ q5),S8 _ _ q7,.cons ⟨[],S8 _ _ (S7 _ _ q6),.nil⟩ .nil,q8,.nil,λb hb=>?_,.nil,(λb hb=>nomatch hb),?_,λb hb=>?_⟩
  ·rw[List.append_nil,Qy]at hb;subst hb;simp only[Qj,QA,Xj,not_or];exact⟨aJ (S5 _ _ q3) hw0,aJ q5 hw0,(aJ q6 hLw).symm,(aJ (S7 _ _ q6) hLo).symm⟩
  ·simp only[QU,Qj,QA,Xj,not_or,not_false_iff,List.nodup_nil,and_true];exact⟨⟨n1.symm,n2.symm,n3.symm⟩,⟨n4.symm,n5.symm⟩,n6.symm⟩
  have S12:=S1.trans S2;have S13:=S12.trans S3;have S16:=S13.trans (S5.trans S6);simp only[Qj,QA,Xj]at hb;rcases hb with rfl|rfl|rfl|rfl
  ·exact bP S12 hLp
  ·exact bP S13 hLn
  ·exact bP S16 hLw
  exact bP (S16.trans S7) hLo
 refine az (s_seq ?_);let I2:IvF:=λm U H'=>∃x pv was nas nds y5 y6 y7 y8,U=[some (.ref a),some (.ref Lp),some (.ref Ln),some (.ref Lw),some (.ref Lo),y5,y6,y7,y8]/\UI H H' Lp Ln Lw Lo x pv was nas nds/\x.Ok r/\nds.length<=x.ps.length/\m+nds.length=40/\K2.outer r ts (m+1) x nds=unf r ts;refine⟨I2,⟨40,_,_,_,_,_,none,none,none,none,rfl,ui,vP ok,QR _,rfl,rfl⟩,?_⟩;rintro m U H' ⟨x,pv,was,nas,nds,y5,y6,y7,y8,rfl,u,xo,hn,hm,hR⟩;have hLp':=u.p;have hLo':=u.o;have lp:=av u.pp;have lo_:=av u.op;have at':=at_.same u.s;lk;rw[Qb,lo_,lp];unfold K2.outer at hR;by_cases c:nds.length<x.ps.length
 ·refine ifT (Qv (by omega)) ?_;rw[Qs c]at hR;obtain⟨m1,rfl⟩:∃m1,m=m1+1:=⟨m-1,by have:=xo.2.2.1;omega⟩;refine⟨_,λσ' H2 h=>⟨m1,Nat.lt_succ_self _,h⟩,?_⟩;have gp:=Sx.p_mem c;have gw:=Sx.w_mem (x:=x) (i:=nds.length) (by rw[xo.1];exact c);generalize x.p nds.length=p at hR gp;generalize x.wy nds.length=way at hR gw;have po:=xo.2.2.2.1 p (Qk gp);obtain⟨vp,gvp,plp⟩:=bg u.pp gp;lk;rw[Qb,lo_];refine⟨by simp[sizeLine],λN hN=>?_⟩;generalize hE:upd H' N _=G1;obtain⟨T1,qN⟩:=ak hN hE;have uN:=u.same T1;have hLp1:=uN.p;lk;refine i_ixL (SqL.of hLp1) (bK gvp) ?_;refine aZ ⟨a,li,lo,l,as,r,vp,p,rfl,at'.same T1,ok,plp.kt (aj.tups T1),po,λq sv ts' G2 T2 nq hq wt' psv=>?_⟩;obtain rfl:ts'=ts:=wt'.one wt λ_=>Iff.rfl;refine⟨q,rfl,⟨_,SqL.of hq⟩,?_⟩
  have iv:IV H G2 G2 Lp Ln Lw Lo N q r x pv was nas nds p way sv [] []:=by
   have u2:=uN.same T2;obtain⟨kvs,en,_⟩:=id uN.n;obtain⟨kvs',en',_⟩:=id u.n
   have was_at:∀b∈was++nas,∃o,H' b=some o:=λb hb=>by
    rcases Qz.mp hb with hb|hb
    ·obtain⟨i,hi,rfl⟩:=Xf hb;obtain⟨y,_,vs,e,_⟩:=paired_get u.wp (Qe hi);exact⟨_,e⟩
    obtain⟨i,hi,rfl⟩:=Xf hb;obtain⟨y,_,vs,e,_⟩:=paired_get u.op (Qe hi);exact⟨_,e⟩
   refine⟨u2,xo,λ_ _ e=>e,hq,T2 _ _ qN,.nil,?_,?_,gp,gw,bP u.s hN⟩
   ·simp only[Qj,not_or];refine⟨aJ u.p hN,aJ en' hN,aJ u.w hN,aJ u.o hN,λz=>?_⟩;obtain⟨o,e⟩:=was_at _ z;rw[e]at hN;cases hN
   simp only[Qj,QA,Xj,not_or];exact⟨aJ uN.p nq,aJ en nq,aJ uN.w nq,aJ qN nq⟩
  generalize eR:bM r p.2 way (bT r ts' p) x []=R at hR;let I3:IvF:=λi U H2=>∃x pv was ndv nd y7 y8,U=[some (.ref a),some (.ref Lp),some (.ref Ln),some (.ref Lw),some (.ref Lo),some (.int (nds.length:Nat)),some (.ref N),y7,y8]/\IV H G2 H2 Lp Ln Lw Lo N q r x pv was nas nds p way sv ndv nd/\bM r p.2 way ((bT r ts' p).drop i) x nd=R/\nd.length=i;refine cE (xs:=sv) I3 ⟨x,pv,was,[],[],y7,y8,rfl,iv,by rw[List.drop_zero];exact eR,rfl⟩ (λi U H2 _ ⟨_,_,_,_,_,_,_,_,iv,_⟩=>SqL.of iv.hq) (λi v U H2 ev h=>?_) (λU H2 h=>?_)
  ·obtain⟨x,pv,was,ndv,nd,y7,y8,rfl,iv,hI,hnd⟩:=h;obtain⟨s,es,sa⟩:=paired_get psv ev;have sa:=sa.kt iv.kt;obtain⟨sb,v1,v2,rfl,hsb,tu,pl2⟩:=id sa;obtain⟨ta,rfl,hta⟩:=id tu;obtain⟨pb,mb,rfl,hpb,hmb⟩:=id pl2;obtain⟨vp,gvp,plp⟩:=bg iv.u.pp iv.gp;obtain⟨t,mt,et⟩:=Qm.mp (Qk es);obtain⟨mt,may⟩:=QW.mp mt;have tok:=Wt.ok ok wt mt;have ssl:(bT r ts' p).length<=10:=by unfold bT;rw[Qb];exact QJ (XU _ _) (Wt.few ok wt)
   have il:=(Qd.mp es).1;have ndl:=av iv.pn;have big:1000<sizeLine:=by decide
   rw[List.drop_eq_getElem_cons il,(Qd.mp es).2]at hI;have hLp2:=iv.u.p;have at2:=at_.same iv.u.s;lk;refine i_ixL (SqL.of hLp2) (bK gvp) ?_;lk;refine⟨a,li,lo,l,as,r,vp,.ref sb,p,s,rfl,at2,ok,plp,po,sa,by rw[<-et];exact tok,λG3 T3=>?_⟩;have iv3:=iv.same T3;have hsb3:=T3 _ _ hsb;have hta3:=T3 _ _ hta;lk;refine⟨rfl,_,rfl,?_⟩
   cases co:dy r p.2 s with
   | some wd =>
    refine ifT (by rw[Qu (λz=>by cases z)];rfl) ?_;have hLw3:=iv3.u.w;obtain⟨wl,gwl,wvs,hwl,wpr⟩:=bg iv3.u.wp iv3.gw;have wl10:way.length<41:=by have:=iv3.xo.2.2.2.2 way (Qk iv3.gw);have:=iv3.xo.1;have:=iv3.xo.2.2.1;omega
    lk;refine i_ixL (SqL.of hLw3) (bK (by rw[Qp,gwl];rfl)) ?_;lk;refine⟨by simp[sizeLine],λp1 h1=>?_⟩;generalize hE:upd G3 p1 _=G4;obtain⟨T4,q4⟩:=ak h1 hE;have wl2:=av wpr;refine gv (T4 _ _ hwl) q4 (by rw[QP];omega) λp2 h2=>?_;generalize hE:upd G4 p2 _=G5;obtain⟨T5,q5⟩:=ak h2 hE;lk;refine⟨by simp[sizeLine],λp3 h3=>?_⟩;generalize hE:upd G5 p3 _=G6;obtain⟨T6,q6⟩:=ak h3 hE;have TT:=(T4.trans T5).trans T6;refine k (.ref p3) ts' G6 (iv3.u.s.trans TT) wt ?_
    have eU:unf r ts'=.odd (way++[s.1]) wd:=by
     unfold bM at hI;rw[co]at hI;rw[<-hR,<-hI]
    rw[eU];exact⟨p3,p2,rfl,q6,bP (iv3.u.s.trans T4) h2,_,T6 _ _ q5,ba (ag (λ_ _ h=>h.kt (aj.tups TT)) wpr) (tu.kt (aj.tups (T3.trans TT)))⟩
   | none =>
   refine ifF rfl ?_;refine s_next ?_;unfold bM at hI;rw[co]at hI;dsimp only at hI;let I4:IvJ:=λU G=>∃x' pv' was',U=[some (.ref a),some (.ref Lp),some (.ref Ln),some (.ref Lw),some (.ref Lo),some (.int (nds.length:Nat)),some (.ref N),some (.ref sb),some .non]/\IV H G2 G Lp Ln Lw Lo N q r x' pv' was' nas nds p way sv ndv nd/\bh G3 G/\s.2∈x'.ps/\bM r p.2 way ((bT r ts' p).drop (i+1)) x' (nd++[(s.1.1,x'.ps.idxOf s.2)])=R;with_reducible refine cT I4 (λRR hJ=>?_) (λU G h=>?_)
   ·obtain⟨kvs,en,kl,kv⟩:=id iv3.u.n;have pl3:=pl2.kt (aj.tups T3);refine s_if (i_tB (nJ ?_));lk;refine⟨Ln,_,rfl,cF.t en pl3.tk,_,rfl,?_⟩;rw[kv];by_cases c:s.2∈x.ps
    ·rw[Qs c]at hI ⊢;exact ifF rfl (s_next (hJ _ _ ⟨x,pv,was,rfl,iv3,λ_ _ e=>e,c,hI⟩))
    rw[Qo c]at hI ⊢;refine ifT rfl ?_;have hLp3:=iv3.u.p;have lp3:=av iv3.u.pp;lk;rw[lp3];by_cases c40:x.ps.length=40
    ·rw[Qs c40]at hI;refine ifT (Qv (by rw[c40];rfl)) ?_;lk;refine⟨by simp[sizeLine],λp3 h3=>?_⟩;generalize hE:upd G3 p3 _=G6;obtain⟨T6,q6⟩:=ak h3 hE;refine k (.ref p3) ts' G6 (iv3.u.s.trans T6) wt ?_;have eU:unf r ts'=.many:=by rw[<-hR,<-hI]
     rw[eU];exact⟨p3,rfl,q6⟩
    rw[Qo c40]at hI;refine ifF (Qu (λz=>c40 (by have:=V.int.inj z;omega))) ?_;kt_k;kt_k;refine fT ?_;lk;rw[lp3];have l40:=iv3.xo.2.2.1;refine⟨Ln,_,rfl,gD.t en pl3.tk (by omega),?_⟩;generalize hE4:upd G3 Ln _=G4;have dl:=iv3.u.dl;simp only[QU,Qj,QA,Xj,not_or]at dl;obtain⟨wl,gwl,wvs,hwl,wpr⟩:=bg iv3.u.wp iv3.gw;have apw:=iv3.u.ap wl (Xb _ (Qk gwl));simp only[Qj,QA,Xj,not_or]at apw;have wl2:=av wpr;have wl10:way.length<x.ws.length:=iv3.xo.2.2.2.2 way (Qk iv3.gw);have wsl:=iv3.xo.1;have k4:∀b o,G3 b=some o->b≠Ln->G4 b=some o:=λb o e z=>by rw[<-hE4,ah z];exact e
    have q4:G4 Ln=some (.dT (bv kvs (tkP s.2) (.int (x.ps.length:Nat)))):=by rw[<-hE4];exact af
    have hLp4:=k4 _ _ hLp3 dl.1.1;have hsb4:=k4 _ _ hsb3 (λz=>by rw[z,en]at hsb3;cases hsb3);have hta4:=k4 _ _ hta3 (λz=>by rw[z,en]at hta3;cases hta3);lk;refine eQ hLp4 (by omega) ?_;generalize hE5:upd G4 Lp _=G5;have k5:∀b o,G4 b=some o->b≠Lp->G5 b=some o:=λb o e z=>by rw[<-hE5,ah z];exact e
    have q5:G5 Lp=some (.lst (pv++[.ref pb])):=by rw[<-hE5];exact af
    have hLw5:=k5 _ _ (k4 _ _ iv3.u.w (λz=>dl.2.1.1 z.symm)) (λz=>dl.1.2.1 z.symm);have hwl5:=k5 _ _ (k4 _ _ hwl apw.2.1) apw.1;have hsb5:=k5 _ _ hsb4 (λz=>by rw[z,hLp4]at hsb4;cases hsb4);have hta5:=k5 _ _ hta4 (λz=>by rw[z,hLp4]at hta4;cases hta4);lk;refine i_ixL (SqL.of hLw5) (bK (by rw[Qp,gwl];rfl)) ?_;lk;refine⟨by simp[sizeLine],λp1 h1=>?_⟩;generalize hE:upd G5 p1 _=G6;obtain⟨T6,q6⟩:=ak h1 hE;refine gv (T6 _ _ hwl5) q6 (by rw[QP];omega) λp2 h2=>?_;generalize hE:upd G6 p2 _=G7;obtain⟨T7,q7⟩:=ak h2 hE;have hLw7:=T7 _ _ (T6 _ _ hLw5);have wal:=av iv3.u.wp;refine aZ (eQ hLw7 (by rw[Qb];omega) ?_);generalize hE8:upd G7 Lw _=G8;have k8:∀b o,G7 b=some o->b≠Lw->G8 b=some o:=λb o e z=>by rw[<-hE8,ah z];exact e
    have kb:∀b o,G3 b=some o->b∉[Lp,Ln,Lw]->G8 b=some o:=λb o e nb=>by
     simp only[Qj,QA,Xj,not_or]at nb;exact k8 _ _ (T7 _ _ (T6 _ _ (k5 _ _ (k4 _ _ e nb.2.1) nb.1))) nb.2.2
    have no2:2∉s.2.1:=λz=>by
     unfold dy at co;rw[Qs z]at co
     split at co <;> cases co
    have xo':Sx.Ok r ⟨x.ps++[s.2],x.ws++[way++[s.1]]⟩:=by
     refine⟨by rw[Qh,Qh,wsl];rfl,by rw[Qh,QP];omega,by rw[Qh,QP];omega,λp' hp'=>?_,λw' hw'=>?_⟩
     ·rcases Qz.mp hp' with h|h
      ·exact iv3.xo.2.2.2.1 p' h
      rw[Qy.mp h,<-et];exact l7 po tok may (by rw[et];exact no2)
     show _<(x.ws++[way++[s.1]]).length;rw[Qh,QP];rcases Qz.mp hw' with h|h
     ·have:=iv3.xo.2.2.2.2 w' h;omega
     rw[Qy.mp h,Qh,QP];omega
    have kt3:bh G3 G8:=yk (Os:=[Lp,Ln,Lw]) (λb hb ys e=>by
     simp only[Qj,QA,Xj]at hb;rcases hb with rfl|rfl|rfl
     ·rw[hLp3]at e;cases e
     ·rw[en]at e;cases e
     rw[iv3.u.w]at e;cases e) kb
    have hp2:p2≠Lw:=aJ (T6 _ _ hLw5) h2
    have hw2:G3 p2=none:=by
     cases e:G3 p2 with
     | none=>rfl
     | some o =>
     by_cases z1:p2=Lp
     ·rw[z1,T6 _ _ q5]at h2;cases h2
     by_cases z2:p2=Ln
     ·rw[z2,T6 _ _ (k5 _ _ q4 (λz=>dl.1.1 z.symm))]at h2;cases h2
     rw[T6 _ _ (k5 _ _ (k4 _ _ e z2) z1)]at h2;cases h2
    obtain⟨kt8,iv8⟩:=iv3.more (p':=s.2) (w':=way++[s.1]) (v:=.ref pb) (wl:=p2) (H':=G8) xo' kb (k8 _ _ (T7 _ _ (T6 _ _ q5)) dl.1.2.1) (pl3.kt kt3)
     ⟨_,k8 _ _ (T7 _ _ (T6 _ _ (k5 _ _ q4 (λz=>dl.1.1 z.symm)))) dl.2.1.1,QJ (bX _ _ _) (by rw[Qh,QP];omega),wU c kv⟩
     (by rw[<-hE8,af,QI];rfl) ⟨_,k8 _ _ q7 hp2,ba (ag (λ_ _ h=>h.kt kt3) wpr) ((tu.kt (aj.tups T3)).kt kt3)⟩ hw2
    refine hJ _ _ ⟨_,_,_,rfl,iv8,kt8,QH _ (List.mem_singleton_self _),?_⟩;rw[show (x.ps++[s.2]).idxOf s.2=x.ps.length by rw[List.idxOf_append,Qo c];simp];exact hI
   obtain⟨x',pv',was',rfl,iv',kt',ms,hI'⟩:=h;obtain⟨kvs,en,kl,kv⟩:=id iv'.u.n;have hsb':=kt' _ _ hsb3;have hta':=kt' _ _ hta3;have hN':=iv'.hN;have pl':=(pl2.kt (aj.tups T3)).kt kt';lk;refine⟨Ln,_,rfl,by have z:=cF.t en pl'.tk;rw[kv,Qs ms]at z;exact z,?_⟩;lk;refine⟨by simp[sizeLine],λp5 h5=>?_⟩;generalize hE:upd G p5 _=G6;obtain⟨T6,q6⟩:=ak h5 hE;have iv6:=iv'.same T6;refine aZ (eQ iv6.hN (by omega) ?_);exact⟨x',pv',was',_,_,_,_,rfl,iv6.put ⟨p5,rfl,q6⟩,hI',by rw[Qh,hnd];rfl⟩
  obtain⟨x,pv,was,ndv,nd,y7,y8,rfl,iv,hI,hnd⟩:=h;rw[List.drop_of_length_le (Nat.le_of_eq (av psv).symm)]at hI;unfold bM at hI;rw[<-hI]at hR;have hLo2:=iv.u.o;have gl:=(Qd.mp iv.gp).1;have big:1000<sizeLine:=by decide
  have l40:=iv.xo.2.2.1;lk;refine eQ hLo2 (by rw[Qb,lo_];omega) ?_;have un:=iv.u.node ⟨ndv,iv.hN,iv.pn⟩ iv.nN iv.N0;rw[QI]at un;exact⟨x,pv,was,nas++[N],nds++[nd],_,_,_,_,rfl,un,iv.xo,by rw[Qh,QP];exact gl,by rw[Qh,QP];omega,hR⟩
 refine ifF (Qu (by omega)) ?_;rw[Qo c]at hR;have ha':=at'.ha;have hi':=at'.hi;lk;refine λli2 h2=>?_;generalize hE:upd H' li2 _=H9;obtain⟨S9,q9⟩:=ak h2 hE;have ha9:=S9 _ _ ha';have ho9:=S9 _ _ at'.ho;lk;refine λlo2 h3=>?_;generalize hE:upd H9 lo2 _=Ha;obtain⟨Sa,qa⟩:=ak h3 hE;have haa:=Sa _ _ ha9;lk;refine⟨by simp[sizeLine],λs2 h4=>?_⟩;generalize hE:upd Ha s2 _=Hb;obtain⟨Sb,qb⟩:=ak h4 hE;lk;refine⟨by simp[sizeLine],λa2 h5=>?_⟩;generalize hE:upd Hb a2 _=Hc;obtain⟨Sc,qc⟩:=ak h5 hE;have Sall:aj H' Hc:=((S9.trans Sa).trans Sb).trans Sc;refine k (.ref a2) ts Hc (u.s.trans Sall) wt ?_;rw[<-hR];have uc:=u.same Sall;have e1:li2≠Lo:=λz=>by rw[z,hLo']at h2;cases h2
 have e2:lo2≠li2:=λz=>by rw[z,q9]at h3;cases h3
 have e3:lo2≠Lo:=λz=>by rw[z,S9 _ _ hLo']at h3;cases h3
 have nas_at:∀b∈nas,∃o,H' b=some o:=λb hb=>by
  obtain⟨i,hi,rfl⟩:=Xf hb;obtain⟨y,_,vs,e,_⟩:=paired_get u.op (Qe hi);exact⟨_,e⟩
 have e4:li2∉nas:=λz=>by obtain⟨o,e⟩:=nas_at _ z;rw[e]at h2;cases h2
 have e5:lo2∉nas:=λz=>by obtain⟨o,e⟩:=nas_at _ z;rw[S9 _ _ e]at h3;cases h3
 have e6:Lo∉nas:=λz=>u.ap _ (QH _ z) (by simp);refine⟨a2,s2,li2,lo2,Lo,nas,rfl,qc,Sc _ _ qb,Sc _ _ (Sb _ _ (Sa _ _ q9)),Sc _ _ (Sb _ _ qa),uc.o,uc.op,?_,?_⟩
 ·simp only[QU,Qj,not_or];exact⟨⟨e2.symm,e1,e4⟩,⟨e3,e5⟩,e6,u.nd⟩
 intro b hb;simp only[Qj]at hb;rcases hb with rfl|rfl|rfl|hb
 ·exact bP u.s h2
 ·exact bP (u.s.trans S9) h3
 ·exact u.new _ (by simp)
 exact u.nw b hb
end
def t8 (K:PySem.W.Frag):Sp:=λvs H Q _=>∃(s:Addr) (ns:List Int) (k:Nat),vs=[.ref s,.int (k:Int)]/\SqL K H s (ns.map V.int)/\k<=100/\∀(D:Dk) H',D.n=3700->aj H H'->H D.d=none->D.At H'->Q (.ref D.d) H'
theorem w4 {x y:Int} (x0:0<=x) (x1:x<9999999607) (y0:0<=y) (y1:y<=100000):0<=(x+991)*(29*y+59)+3517*y*y/\(x+991)*(29*y+59)+3517*y*y<1000000000000000000:=by
 have a0:0<=(x+991)*(29*y+59):=Int.mul_nonneg (by omega) (by omega);have a1:(x+991)*(29*y+59)<=10000000598*2900059:=Int.mul_le_mul (by omega) (by omega) (by omega) (by omega);have b0:0<=3517*y*y:=Int.mul_nonneg (by omega) y0;have b1:3517*y*y<=351700000*100000:=Int.mul_le_mul (by omega) y1 y0 (by omega);omega
section
theorem mF:FnScope ["script", "k", "cell"] ["script", "k"] (au (top 37)):=by fin2
theorem wK {f:Addr} {fd:FuncData} (Fu:Fun K "_law_pool" "_law_pool" (top 37) f fd) (T:Txt K mg TT):FnOk P w K mg base CX0 1 f fd ["script", "k"] (t8 K):=by
 have S:=mF;refine Fu.ok S (by room) (λcdv A outer s H vs Q E hr h=>?_);obtain⟨s,ns,k,rfl,hS,k100,q⟩:=h
 refine⟨_,(aK (uz (i:=2) S.nd rfl (by z_go) ae)
  (aK (ps_if (aC jU (pv 1) (aq ay (by rfl) T.n_len QL (aa (pv 0) ac ad)) (aF _)) (aI (aG 2 S.nd (am aX (pv 0) (pv 1)))) pss_nil)
  (aK (ps_if (aC yh (pv 2) (aO uP ae ae) (aF _)) (aI (aD (pe_lst (aa (aO fU (pv 2) (aO uP ae ae)) (aa ae (aa ae ac aP) aP))))) pss_nil)
  (aI (aD (pe_lst (aa (pv 2) (aa ae (aa (aO e_ ae (pv 1)) ac) aP) ad))))))),?_⟩
 x_go;lk;refine⟨_,_,rfl,Or.inl hS,?_⟩;lk;rw[Qb]
 have J:∀(a b:Int) p,0<=b->b<=3700->H p=none->∀x,upd H p (.lst [.int a,.int x,.int b])=upd H p (.lst [.int a,.int x,.int b])->Q (.ref p) (upd H p (.lst [.int a,.int x,.int b])):=λa b p b0 b1 hp x _ =>
  q ⟨p,3700⟩ _ rfl (aw hp) hp ⟨_,_,_,af,b0,b1⟩
 by_cases c:k<ns.length
 ·refine ifT (Qv (by omega)) ?_;lk;refine i_ixL (v:=.int ns[k]) hS (bK (by rw[Qp,Qe c];rfl)) ?_;lk
  first|refine i_rI ⟨by decide,by decide,by decide⟩ ?_|skip
  lk;refine lA (λ_=>?_) (λ_=>?_)
  ·lk
   first|refine i_rI ⟨by decide,by decide,by decide⟩ ?_|skip
   lk;refine⟨by simp[sizeLine],λp hp=>?_⟩;exact J _ _ p (by omega) (by omega) hp _ rfl
  lk;refine⟨by simp[sizeLine],λp hp=>?_⟩;exact J _ _ p (by omega) (by omega) hp _ rfl
 refine ifF (Qu (by omega)) ?_;lk
 first|refine i_rI ⟨by decide,by decide,by decide⟩ ?_|skip
 lk;refine lA (λ_=>?_) (λ_=>?_)
 ·lk
  first|refine i_rI ⟨by decide,by decide,by decide⟩ ?_|skip
  lk;refine⟨by simp[sizeLine],λp hp=>?_⟩;exact J _ _ p (by omega) (by omega) hp _ rfl
 lk;refine⟨by simp[sizeLine],λp hp=>?_⟩;exact J _ _ p (by omega) (by omega) hp _ rfl
theorem mD:FnScope ["pool", "many", "found", "step", "mark"] ["pool", "many"] (au (top 38)):=by fin2
theorem wH {f:Addr} {fd:FuncData} (Fu:Fun K "_law_take" "_law_take" (top 38) f fd) (T:Txt K mg TT):FnOk P w K mg base CX0 1 f fd ["pool", "many"] gF:=by
 have S:=mD;refine Fu.ok S (by room) (λcdv A outer s H vs Q E hr h=>?_);obtain⟨D,m,rfl,DA,n1,h1,h2,k⟩:=h
 refine⟨_,(aK (ps_if (aC cC (am aX (pv 0) ae) ae (aF _)) (aK (aG 2 S.nd (aO gO (am aX (pv 0) ae) (pv 1)))
  (aK (oY (aO qV (am aX (pv 0) ae) (pv 1)) (uF (pv 0) ae mj))
  (aI (aD (pv 2))))) pss_nil)
  (aK (oY (aO cD (am aX (pv 0) ae) ae) (uF (pv 0) ae mj))
  (aK (aG 3 S.nd (am aX (pv 0) ae))
  (aK (aG 4 S.nd (aO e_ (aO cD (aO gO (am aX (pv 0) ae) ae) ae) (aO cD (aO e_ ae (pv 3)) ae)))
  (aK (aG 4 S.nd (aO cD (pv 4) (aO e_ (aO e_ ae (pv 3)) (pv 3))))
  (aK (aG 4 S.nd (aO gO (aO e_ (pv 4) (pv 4)) ae))
  (aI (aD (aO gO (aO qV (aO gO (aO e_ (pv 4) (aO cD (pv 4) ae)) ae) ae) (pv 1)))))))))),?_⟩
 x_go;obtain⟨a,b,c,hd,c0,c1⟩:=id DA;lk;refine lA (λ_=>?_) (λ_=>?_)
 ·lk
  first|refine i_rI (show (0:Int)<m by omega) ?_|skip
  lk
  first|refine i_rI ⟨by omega,by omega⟩ ?_|skip
  lk;exact k _ _ (Int.emod_nonneg _ (by omega)) (Int.emod_lt_of_pos _ (by omega)) ((ym (D:=D) c0 c1).le (QQ _ _))
 lk;have hd2:upd H D.d (HO.lst ([V.int a,V.int b,V.int c].set (Int.toNat 2) (V.int (c+1)))) D.d=some (.lst [.int a,.int b,.int (c+1)]):=af;have kp:Kp (D.more 1) H (upd H D.d (HO.lst ([V.int a,V.int b,V.int c].set (Int.toNat 2) (V.int (c+1))))):=ym (D:=D.more 1) (by omega) (by show c+1<=((D.n+1:Nat):Int);omega);generalize upd H D.d (HO.lst ([V.int a,V.int b,V.int c].set (Int.toNat 2) (V.int (c+1))))=H1 at *;lk;obtain⟨M0,M1⟩:=w4 (x:=a % 9999999607) (y:=c+1) (Int.emod_nonneg _ (by decide)) (Int.emod_lt_of_pos _ (by decide)) (by omega) (by omega);generalize (a % 9999999607+991)*(29*(c+1)+59)+3517*(c+1)*(c+1)=M at *;refine i_rI (.inl ⟨by omega,by omega⟩) ?_;lk;have N0:=Int.emod_nonneg (M*M) (show (99999999647:Int)≠0 by decide);have N1:=Int.emod_lt_of_pos (M*M) (show (0:Int)<99999999647 by decide);generalize M*M % 99999999647=N at *
 first|refine i_rI (.inl ⟨by omega,by omega⟩) ?_|skip
 lk
 first|refine i_rI (show (0:Int)<m by omega) ?_|skip
 exact k _ _ (Int.emod_nonneg _ (by omega)) (Int.emod_lt_of_pos _ (by omega)) kp
end
theorem eF {T:List Nat}:∀(zs:List Str),(∀z∈zs,∃c∈T,z=⟨#[c]⟩)->((zs.map (·.cps.toList)).flatten).length=zs.length/\(∀c∈(zs.map (·.cps.toList)).flatten,c∈T)/\(zs.map (·.length)).sum=zs.length
 | [],_=>⟨rfl,λc h=>(QA h).elim,rfl⟩
 | z::zs,h=>by
  obtain⟨c,hc,rfl⟩:=h z (by simp);obtain⟨e1,e2,e3⟩:=eF zs λz hz=>h z (Qn _ hz);refine⟨?_,λd hd=>?_,?_⟩
  ·simp only[Qw,List.flatten_cons,Qh,e1,XA];show (#[c]:Array Nat).toList.length+zs.length=_;simp;omega
  ·simp only[Qw,List.flatten_cons,Qz]at hd;rcases hd with hd|hd
   ·have:d=c:=by simpa using hd
    rw[this];exact hc
   exact e2 d hd
  simp only[Qw,List.sum_cons,XA,e3];show (#[c]:Array Nat).size+zs.length=_;simp;omega
variable {zs ns:List Str}
theorem j5 {T:List Nat} (h:∀z∈zs,∃c∈T,z=⟨#[c]⟩):(Txt.join Str.empty zs).cps.size=zs.length/\∀c∈(Txt.join Str.empty zs).cps.toList,c∈T:=by
 obtain⟨e1,e2,_⟩:=eF zs h;rw[<-Qi,sV];exact⟨e1,e2⟩
theorem xF {t:Str} {r:Int} (h0:0<=r) (h1:r<t.cps.size):∃c,atI t.cps.toList r=some c/\c∈t.cps.toList:=by
 have hr:r.toNat<t.cps.toList.length:=by rw[Qi];omega
 refine⟨t.cps.toList[r.toNat],?_,Q9 hr⟩;have e:r=((r.toNat:Nat):Int):=by omega
 have q:=bK (xs:=t.cps.toList) (j:=r.toNat) (v:=t.cps.toList[r.toNat]) (Qe hr);rw[<-e]at q;exact q
def Lt:Str := "abcdefghijklmnopqrstuvwxyz"
def Xn (t:Nat):Str:=Txt.mul ⟨#[Lt.cps.getD t 0]⟩ 8
theorem zQ:∀i,i<26->∀j,j<26->Xn i=Xn j->i=j:=by decide +kernel
theorem zP:∀t,t<26->(Xn t).length=8:=by decide +kernel
theorem AF (c:Nat):MulOk ⟨#[c]⟩ 8:=by
 refine⟨by decide,λ_ _=>?_,λ_ _=>?_⟩
 ·show ¬((1:Int)>(2 ^ 63-1) / 8)
  decide
 rfl
theorem pigeon:∀(xs ys:List Str),xs.Nodup->(∀x∈xs,x∈ys)->xs.length<=ys.length
 | [],ys,_,_=>QR _
 | x::xs,ys,nd,h=>by
  rw[QU]at nd;have hx:=h x (by simp);have:=pigeon xs (ys.erase x) nd.2 λy hy=>(List.mem_erase_of_ne (λz:y=x=>nd.1 (by rw[<-z];exact hy))).mpr (h y (Qn _ hy));rw[List.length_erase_of_mem hx]at this;have:0<ys.length:=List.length_pos_of_mem hx;rw[XA];omega
theorem oA:∀t,t<=26->((List.range t).map Xn).Nodup
 | 0,_=>by simp
 | t+1,h=>by
  rw[List.range_succ,QI,X4];refine⟨oA t (by omega),by simp,λa ha b hb e=>?_⟩;obtain⟨i,hi,rfl⟩:=Qm.mp ha;rw[Xx]at hi;have:b=Xn t:=by simpa using hb
  subst this;have:=zQ i (by omega) t (by omega) e;omega
theorem AZ {t:Nat} (ht:t<=26) (h:∀j,j<t->Xn j∈ns):t<=ns.length:=by
 have:=pigeon ((List.range t).map Xn) ns (oA t ht) λx hx=>by
  obtain⟨j,hj,rfl⟩:=Qm.mp hx;exact h j (Xx.mp hj)
 simpa using this
structure NmOk (b:Nat) (z:Str):Prop where
 pos:1<=z.length
 lt:z.length<b
theorem xE (h:ns≠[]):∃n∈ns,atI (ns.map V.str) (-1)=some (.str n):=by
 have hl:0<ns.length:=List.length_pos_iff.mpr h;refine⟨ns[ns.length-1],Q9 _,?_⟩
 have e:ixN (ns.map V.str).length (-1)=some (ns.length-1):=by
  unfold ixN;rw[Qb,Qo (by decide),Qs (by omega)];congr 1;omega
 unfold atI;rw[e];show (ns.map V.str)[ns.length-1]?=_;rw[Qp,Qe (by omega)];rfl
theorem xD {ws:List Str} {r:Int} (h0:0<=r) (h1:r<ws.length):∃n∈ws,atI (ws.map V.str) r=some (.str n):=by
 have hr:r.toNat<ws.length:=by omega
 refine⟨ws[r.toNat],Q9 hr,?_⟩;have e:r=((r.toNat:Nat):Int):=by omega
 have q:=bK (xs:=ws.map V.str) (j:=r.toNat) (v:=.str ws[r.toNat]) (by rw[Qp,Qe hr];rfl);rw[<-e]at q;exact q
theorem io {nm:Str}:∀{ns:List Str},inV (.str nm) (ns.map V.str)=true↔nm∈ns
 | []=>by simp[inV]
 | x::ns=>by
  have ih:=io (nm:=nm) (ns:=ns);unfold inV at ih ⊢;rw[Qw,List.any_cons,Bool.or_eq_true,ih,Qj]
  have:eqV (.str x) (.str nm)=true↔nm=x:=by
   show decide (x=nm)=true↔_;rw[XB];exact⟨λh=>h.symm,λh=>h.symm⟩
  rw[this]
theorem ke (ns:List Str):(ns.map V.str).all bY=true:=by
 rw[QT];intro x hx;obtain⟨y,_,rfl⟩:=Qm.mp hx;rfl
theorem lap (a b:Str):(a++b).length=a.length+b.length:=by show (a.cps++b.cps).size=_;rw[Array.size_append];rfl
structure NmL (z:Str):Prop where
 pos:1<=z.length
 l8:z.length<=8
 lw:∀c∈z.cps.toList,97<=c/\c<=122
theorem pK (h:c∈Lt.cps.toList):97<=c/\c<=122:=(by decide +kernel:∀c∈Lt.cps.toList,97<=c/\c<=122) c h
theorem nv (z:Str):z.length=z.cps.toList.length:=(Qi ..).symm
theorem jn (a b:Str):(a++b).cps.toList=a.cps.toList++b.cps.toList:=by show (a.cps++b.cps).toList=_;simp
theorem u5 {r:Int} (h7:z.length=7) (lw:∀c∈z.cps.toList,97<=c/\c<=122) (h0:0<=r) (h1:r<8) (hc:c∈Lt.cps.toList):NmL (Txt.slice z none (some r)++⟨#[c]⟩):=by
 obtain⟨j,rfl⟩:∃j:Nat,r=(j:Int):=⟨r.toNat,by omega⟩;have hs:z.cps.size=7:=h7;have e:=f8 (z:=z) (j:=j) (by omega);have el:(Txt.slice z none (some (j:Int))++⟨#[c]⟩).cps.toList=z.cps.toList.take j++[c]:=by rw[jn,e]
 have ll:(Txt.slice z none (some (j:Int))++⟨#[c]⟩).length=j+1:=by
  rw[nv,el,Qh,QO,Qi];show min j z.cps.size+1=_;omega
 refine⟨by omega,by omega,λd hd=>?_⟩;rw[el]at hd;rcases Qz.mp hd with h|h
 ·exact lw d (List.mem_of_mem_take h)
 rw[Qy.mp h];exact pK hc
theorem u6 (h:∀z∈zs,∃c∈Lt.cps.toList,z=⟨#[c]⟩) (h1:1<=zs.length) (h8:zs.length<=8):NmL (Txt.join Str.empty zs):=by
 obtain⟨js,jl⟩:=j5 h;have js':(Txt.join Str.empty zs).length=zs.length:=js;exact⟨by omega,by omega,λc hc=>pK (jl c hc)⟩
theorem wX {r:Int} (g:NmL z) (h0:0<=r) (h1:r<(z.length:Int)) (hc:c∈Lt.cps.toList):NmL ((Txt.slice z none (some r)++⟨#[c]⟩)++Txt.slice z (some (r+1)) none):=by
 obtain⟨j,rfl⟩:∃j:Nat,r=(j:Int):=⟨r.toNat,by omega⟩;have zl:z.length=z.cps.size:=rfl;have e1:=f8 (z:=z) (j:=j) (by omega);have e2:=fP (z:=z) (a:=j+1) (by omega);rw[show (((j+1:Nat)):Int)=(j:Int)+1 by omega]at e2;have el:((Txt.slice z none (some (j:Int))++⟨#[c]⟩)++Txt.slice z (some ((j:Int)+1)) none).cps.toList=(z.cps.toList.take j++[c])++z.cps.toList.drop (j+1):=by rw[jn,jn,e1,e2]
 have ll:((Txt.slice z none (some (j:Int))++⟨#[c]⟩)++Txt.slice z (some ((j:Int)+1)) none).length=z.length:=by
  rw[nv,el,Qh,Qh,QO,XG,Qi];show min j z.cps.size+1+(z.cps.size-(j+1))=z.cps.size;omega
 refine⟨by rw[ll];exact g.pos,by rw[ll];exact g.l8,λd hd=>?_⟩;rw[el]at hd;rcases Qz.mp hd with h|h
 ·rcases Qz.mp h with h|h
  ·exact g.lw d (List.mem_of_mem_take h)
  rw[Qy.mp h];exact pK hc
 exact g.lw d (List.mem_of_mem_drop h)
theorem AD:∀t,t<26->NmL (Xn t):=λt ht=>by
 have:=zP t ht;exact⟨by omega,by omega,(by decide +kernel:∀t,t<26->∀c∈(Xn t).cps.toList,97<=c/\c<=122) t ht⟩
def l_:Sp:=λvs H Q _=>∃(D:Dk) (m:Nat),vs=[.ref D.d,.int (m:Int)]/\D.At H/\D.n<50000/\1<=m/\m<=11 /\
 ∀l (nm:List Str) H',Kp (D.more 200) H H'->H l=none->nm.length=m->nm.Nodup->(∀n∈nm,NmL n)->H' l=some (.lst (nm.map V.str))->Q (.ref l) H'
variable {D D':Dk}
theorem Kp.up {c':Nat} (a:Kp (D.more c) H H1) (l:c<=c'):Kp (D.more c') H H1:=a.le (Nat.add_le_add_left l _)
theorem Kp.one (a:Kp (D.more c) H H1) (b:Kp ((D.more c).more 1) H1 H2):Kp (D.more (c+1)) H H2:=(a.trans b).le (Nat.le_of_eq (Nat.add_assoc _ _ _))
theorem bA {c:Nat} {m:Int} {E:XK} (kp:Kp (D.more c) H0 H) (dn:D.n+c<100000) (h1:1<=m) (h2:m<=100000)
  (q:∀(r:Int) H',0<=r->r<m->(∀b o,H b=some o->¬D.own b->H' b=some o)->Kp (D.more (c+1)) H0 H'->Q (.int r) H'):gF [.ref D.d,.int m] H Q E :=
 ⟨D.more c,m,rfl,kp.dk,dn,h1,h2,λr H' r0 r1 k=>q r H' r0 r1 k.old (kp.one k)⟩
theorem p_ {r:Int} (h0:0<=r) (h1:r<26):∃c∈Lt.cps.toList,atI Lt.cps.toList r=some c:=by
 have z26:((Lt.cps.size:Nat):Int)=26:=by decide +kernel
 obtain⟨c,e,hc⟩:=xF (t:=Lt) (r:=r) h0 (by rw[z26];exact h1);exact⟨c,hc,e⟩
def NJp (D:Dk) (m:Nat) (l:Addr) (stem:Str) (H:Hp) (i:Nat) (ns:List Str) (c:Nat):St->Hp->Prop:=λU H'=>∃(way:Int) (nm:Str) (x8 x9:Option V),U=[some (.ref D.d),some (.int (m:Int)),some (.str Lt),some (.str stem),some (.ref l),some (.int (0+i)),some (.str nm),some (.int way),x8,x9]/\NmL nm/\H' l=some (.lst (ns.map V.str))/\Kp (D.more c) H H'
local macro_rules|`(tactic|ctx_has $a $b $c $d $e $f $g)=>`(tactic|(generalize hE:upd $a $b _=$c;obtain⟨$d,$e⟩:=$f $g hE;clear hE))
section
theorem kR:FnScope ["pool", "many", "letters", "stem", "found", "k", "name", "way", "at", "turn"] ["pool", "many"] (au (top 39)):=by fin2
theorem sC {f:Addr} {fd:FuncData} (Fu:Fun K "_law_names" "_law_names" (top 39) f fd) (T:Txt K mg TT) (f_law_take:Fn P w K mg base "_law_take" ["pool", "many"] 1 gF):FnOk P w K mg base CX0 2 f fd ["pool", "many"] l_:=by
 have S:=kR;refine Fu.ok S (by room) (λcdv A outer s H vs Q E hr h=>?_);obtain⟨D,m,rfl,DA,dn,m1,m11,k⟩:=h;refine'⟨?_,?bb,?_⟩
 case bb =>
  walk_at "b";exact aG 2 S.nd bj;exact aG 3 S.nd (am aX (pe_lst (aa bj (aa bj (aa bj (aa bj ac aP) aP) aP) aP)) (aM f_law_take hr (aa (pv 0) (aa ae ac aP) ad)));exact aG 4 S.nd (pe_lst ac);walk_at "f";exact(dU (by rfl) T.n_range (aa (pv 1) ac ad));exact(bB 5 S.nd);walk_at "p";exact aG 6 S.nd (aO bW (bU fQ (pv 3) cB (cA (aM f_law_take hr (aa (pv 0) (aa ae ac aP) ad)))) (am dD (pv 2) (aM f_law_take hr (aa (pv 0) (aa ae ac aP) ad))));exact aG 7 S.nd (aM f_law_take hr (aa (pv 0) (aa ae ac aP) ad));exact(aC cC (pv 7) ae (aF _));exact aG 6 S.nd (bO PySem.F.plainAttrs_str PySem.F.slot_str_join PySem.F.type_str_join wY bj (aa (dW "turn" [("letters", 2),("pool", 0)] (dU (by rfl) T.n_range (aa (aO cD ae (aM f_law_take hr (aa (pv 0) (aa ae ac aP) ad))) ac)) (λ_ _ _ _=>(am dD (pv 1) (aM f_law_take hr (aa (pv 2) (aa ae ac aP) ad))))) ac));exact(PW.pt (oX (aC cC (pv 7) ae (aF _)) (kX (aC (kZ hr.units) (pv 4) (pe_lst ac) (aF _)))));exact aG 8 S.nd (aM f_law_take hr (aa (pv 0) (aa (aq eM (by rfl) T.n_len QL (aa (am aX (pv 4) (mO iu ae)) ac)) ac se_call) ad));exact aG 6 S.nd (aO bW (aO bW (bU fQ (am aX (pv 4) (mO iu ae)) cB (cA (pv 8))) (am dD (pv 2) (aM f_law_take hr (aa (pv 0) (aa ae ac aP) ad)))) (bU fQ (am aX (pv 4) (mO iu ae)) (cA (aO cD (pv 8) ae)) cB));exact aG 9 S.nd ae;refine' ge PassesOwn.never ?_ ?_;rotate_left 2;exact(aC df (pv 6) (pv 4) rfl);walk_at "p";exact aG 6 S.nd (aO pd (am dD (pv 2) (pv 9)) ae);exact aG 9 S.nd (aO cD (pv 9) ae);exact(bZ (bO QE Q0 Q2 bt (pv 4) (aa (pv 6) ac ad)));exact(aD (pv 4))
 x_go;lk;refine⟨by decide +kernel,λp hp=>?_⟩;ctx_has H p H1 S1 q1 ak hp;have q1':H1 p=some (.lst ((["abcdefg", "placeof", "zyxwvut", "kjqrshn"]:List Str).map V.str)):=q1;have kp1:Kp (D.more 0) H H1:=Kp.of DA S1;lk;refine bA kp1 (by omega) (by decide) (by decide) λr H2 r0 r1 o2 kp2=>?_;have np:¬D.own p:=aV DA hp;have q2:=o2 _ _ q1' np;obtain⟨stem,hst,est⟩:=xD (ws:=["abcdefg", "placeof", "zyxwvut", "kjqrshn"]) (r:=r) r0 r1;have hstl:stem.length=7:=(by decide +kernel:∀z∈(["abcdefg", "placeof", "zyxwvut", "kjqrshn"]:List Str),z.length=7) stem hst;have hstw:=(by decide +kernel:∀z∈(["abcdefg", "placeof", "zyxwvut", "kjqrshn"]:List Str),∀c∈z.cps.toList,97<=c/\c<=122) stem hst;refine i_ixL (SqL.of q2) est ?_;clear q2 q1 q1' S1 kp1;lk;refine⟨by decide,λl hl=>?_⟩;have nl:¬D.own l:=aV (D:=D.more 1) kp2.dk hl;have HL:H l=none:=kp2.free hl;ctx_has H2 l H3 S3 q3 ak hl;have q3':H3 l=some (.lst (([]:List Str).map V.str)):=q3;have kp3:Kp (D.more 1) H H3:=kp2.trans (Kp.of kp2.dk S3);clear q3 S3 hl;lk;refine⟨by omega,by omega,?_⟩;rw[Q7];let I5:IvF:=λi U H'=>∃x5 x6 x7 x8 x9,∃ns:List Str,U=[some (.ref D.d),some (.int (m:Int)),some (.str Lt),some (.str stem),some (.ref l),x5,x6,x7,x8,x9]/\i<=11/\ns.length=i/\ns.Nodup/\(∀n∈ns,NmL n)/\H' l=some (.lst (ns.map V.str))/\Kp (D.more (1+14*i)) H H'
 refine gS (n:=m) I5
  ⟨_,_,_,_,_,[],rfl,QR _,rfl,List.nodup_nil,(λn h=>nomatch h),q3',kp3⟩ (λi U H' hi pv=>?_) (λU H' pv=>?_)
 ·obtain⟨x5,x6,x7,x8,x9,ns,rfl,_,hn,nd,good,hl',kp⟩:=pv;have l1:∀c,(⟨#[c]⟩:Str).length=1:=λ_=>rfl;refine az ?_;lk;refine bA kp (by omega) (by decide) (by decide) λr2 Ha r20 r21 oa kpa=>?_;lk;have sl:=Txt.slice_le stem none (some r2);refine i7 (by omega) ?_;lk;refine bA kpa (by omega) (by decide) (by decide) λr3 Hb r30 r31 ob kpb=>?_;obtain⟨c,hc,ec⟩:=p_ r30 r31;refine ff (by decide +kernel) ec ?_;refine⟨_,_,rfl,rfl,by rw[l1];omega,?_⟩;have hnm:NmL (Txt.slice stem none (some r2)++⟨#[c]⟩):=u5 hstl hstw r20 r21 hc;generalize Txt.slice stem none (some r2)++⟨#[c]⟩=nm at *;have hlb:=ob _ _ (oa _ _ hl' nl) nl;clear oa ob kpa sl r20 r21;refine az ?_;lk;refine bA kpb (by omega) (by decide) (by decide) λway Hc w0 w1 oc kpc=>?_;have hlc:=oc _ _ hlb nl;clear oc kpb hlb;refine az ?_;with_reducible refine cT (NJp D m l stem H i ns (1+14*i+12)) (λR hR=>?_) (λσ6 H6 j6=>?_)
  ·lk;refine lA (λ_=>?_) (λ_=>hR _ _ ⟨way,nm,x8,x9,rfl,hnm,hlc,kpc.up (by omega)⟩);lk;refine⟨rfl,?_⟩;lk;refine bC ?_;lk;refine bA kpc (by omega) (by decide) (by decide) λr4 Hd r40 r41 od kpd=>?_;have hld:=od _ _ hlc nl;lk;refine⟨by omega,by omega,λL hL=>?_⟩;have nL:¬D.own L:=aV (D:=D.more _) kpd.dk hL;have HLn:H L=none:=kpd.free hL;obtain⟨n8,e8,a8,b8⟩:∃n8:Nat,(1+r4).toNat=n8/\1<=n8/\n8<=8:=⟨_,rfl,by omega,by omega⟩;rw[e8];have nlL:l≠L:=ao hld hL;let I6:IvC:=λn H' ys=>Kp (D.more (1+14*i+4+n)) H H'/\H' L=some (.lst ys)/\H' l=some (.lst (ns.map V.str))/\∃zs:List Str,ys=zs.map V.str/\zs.length=n/\∀z∈zs,∃c∈Lt.cps.toList,z=⟨#[c]⟩
   refine jf (n:=n8) I6
    ⟨(Kp.new kpd hL).up (by omega),af,by rw[ah nlL];exact hld,[],rfl,rfl,λz h=>nomatch h⟩ (λn H' ys pv=>pv.2.1) (λn H' ys hn8 pv=>?_) (λH' ys pv=>?_)
   ·obtain⟨kpx,hLx,hlx,zs,rfl,hz,hzs⟩:=pv;refine az ⟨⟨rfl,rfl,trivial⟩,i_yes (cu ?_)⟩;show tOp _ _ _ [some (.int (0+n)),some (.str Lt),some (.ref D.d)] _ _;lk;refine bA kpx (by omega) (by decide) (by decide) λr5 Hy r50 r51 oy kpy=>?_;obtain⟨c5,hc5,ec5⟩:=p_ r50 r51;refine ff (by decide +kernel) ec5 ?_;refine c8.mk (oy _ _ hLx nL) hn8 (by rw[Qb];omega) ⟨Kp.fresh (DA.le (QQ _ _)) HLn (kpy.up (by omega)),af,by rw[ah nlL];exact oy _ _ hlx nl,zs++[⟨#[c5]⟩],by simp,by simp[hz],λz hz'=>?_⟩;rcases Qz.mp hz' with h|h
    ·exact hzs z h
    rw[Qy]at h;exact⟨c5,hc5,h⟩
   obtain⟨kpx,hLx,hlx,zs,rfl,hz,hzs⟩:=pv;obtain⟨_,_,f3⟩:=eF zs hzs;obtain⟨js,_⟩:=j5 hzs;have e0:("" : Str)=Str.empty:=by decide +kernel
   have e00:("" : Str).length=0:=by decide +kernel
   refine aZ ⟨"", L,zs,rfl,rfl,SqL.of hLx,by rw[f3,e00];omega,?_⟩;rw[e0];have js':(Txt.join Str.empty zs).length=zs.length:=js;exact az (hR _ _ ⟨way,_,x8,x9,rfl,u6 hzs (by omega) (by omega),hlx,kpx.up (by omega)⟩)
  clear hnm hlc kpc;with_reducible refine cT (NJp D m l stem H i ns (1+14*i+14)) (λR hR=>?_) (λσ7 H7 j7=>?_)
  ·obtain⟨way,nm,x8,x9,rfl,hnm,hl6,kp6⟩:=j6;have out:∀H',aj H6 H'->R [some (.ref D.d),some (.int (m:Int)),some (.str Lt),some (.str stem),some (.ref l),some (.int (0+i)),some (.str nm),some (.int way),x8,x9] H':=λH' kq=>hR _ _ ⟨way,nm,x8,x9,rfl,hnm,kq _ _ hl6,(kp6.trans (Kp.of kp6.dk kq)).up (by omega)⟩;lk;refine lA (λ_=>?_) (λ_=>?_)
   ·lk;refine⟨by decide,λp hp=>?_⟩;have S7:=aw (o:=.lst []) hp;have hl7:=S7 _ _ hl6;refine⟨l,p,_,[],λ_=>true,rfl,rfl,SqL.of hl7,SqL.of af,(λj x y _ h=>by simp at h),⟨_,rfl,?_⟩⟩;refine lA (λhne=>?_) (λ_=>out _ S7);have nne:ns≠[]:=λz=>by subst z;simp at hne
    obtain⟨la,hla,ela⟩:=xE nne;have gla:=good la hla;have gp:=gla.pos;have gl:=gla.l8;have kp8:Kp (D.more (1+14*i+12)) H (upd H6 p (.lst [])):=kp6.trans (Kp.of kp6.dk S7);generalize upd H6 p (.lst [])=H8 at *;lk;refine i_ixL (SqL.of hl7) ela ?_;lk;refine⟨_,rfl,by omega,?_⟩;lk;refine bA kp8 (by omega) (by omega) (by omega) λat1 H9 t0 t1 o9 kp9=>?_;have hl9:=o9 _ _ hl7 nl;lk;refine i_ixL (SqL.of hl9) ela ?_;lk;refine i7 (by omega) ?_;lk;refine bA kp9 (by omega) (by decide) (by decide) λr6 Hk r60 r61 ok kpk=>?_;obtain⟨c6,hc6,ec6⟩:=p_ r60 r61;have hlk:=ok _ _ hl9 nl;refine ff (by decide +kernel) ec6 ?_;have sl1:=Txt.slice_le la none (some at1);have sl2:=Txt.slice_le la (some (at1+1)) none;refine⟨_,_,rfl,rfl,by rw[l1];omega,?_⟩;lk;refine i_ixL (SqL.of hlk) ela ?_;lk;refine i7 (by omega) ?_;refine⟨_,_,rfl,rfl,by rw[lap,l1];omega,?_⟩;exact az (hR _ _ ⟨way,_,_,x9,rfl,wX gla t0 t1 hc6,hlk,kpk.up (by omega)⟩)
   first|exact out _ (aj.refl _)|exact iteF (out _ (aj.refl _))
  obtain⟨way,nm,x8,x9,e,hnm,hl6,kp6⟩:=j7;subst e;with_reducible refine s_seq (s_asg (i_c (az ?_)))
  let I7:IvJ:=λU H'=>∃(t:Int) (nm:Str),U=[some (.ref D.d),some (.int (m:Int)),some (.str Lt),some (.str stem),some (.ref l),some (.int (0+i)),some (.str nm),some (.int way),x8,some (.int t)]/\NmL nm/\nm∉ns/\H'=H7;with_reducible refine cT I7 (λR hR=>?_) (λσ9 H9 j9=>?_)
  ·let I8:IvF:=λn U H'=>∃(t:Nat) (nm:Str),n=26-t/\t<=11/\U=[some (.ref D.d),some (.int (m:Int)),some (.str Lt),some (.str stem),some (.ref l),some (.int (0+i)),some (.str nm),some (.int way),x8,some (.int t)]/\NmL nm/\H'=H7/\(∀j,j+1<t->Xn j∈ns)/\(1<=t->nm=Xn (t-1));refine⟨I8,⟨26,0,nm,rfl,by omega,rfl,hnm,rfl,(λj h=>by omega),(λh=>by omega)⟩,?_⟩;rintro n U H' ⟨t,nm,rfl,t11,rfl,hnm,rfl,q1,q2⟩;have z26:((Lt.cps.size:Nat):Int)=26:=by decide +kernel
   lk;refine Be (SqL.of hl6) rfl (ke ns) ?_;refine⟨_,rfl,?_⟩;refine lA (λhin=>?_) (λhin=>?_)
   ·have hmem:=io.mp hin
    have hall:∀j,j<t->Xn j∈ns:=λj hj=>by
     by_cases z:j+1<t
     ·exact q1 j z
     have:j=t-1:=by omega
     rw[this,<-q2 (by omega)];exact hmem
    have ht:=AZ (by omega) hall;refine⟨_,λσ' H' w=>⟨26-(t+1),by omega,w⟩,?_⟩;lk
    have et:atI Lt.cps.toList ((t:Nat):Int)=some (Lt.cps.getD t 0):=by
     refine bK ?_;have:t<Lt.cps.size:=by omega
     simp[Array.getD,this]
    refine ff (by decide +kernel) et ?_;lk;refine⟨_,_,rfl,rfl,AF _,?_⟩;lk;refine⟨t+1,Xn t,rfl,by omega,rfl,?_,rfl,(λj hj=>hall j (by omega)),(λ_=>rfl)⟩;exact AD t (by omega)
   exact hR _ _ ⟨t,nm,rfl,hnm,λz=>hin (io.mpr z),rfl⟩
  obtain⟨t,nm,e,hnm,hnot,e9⟩:=j9;subst e e9;lk;refine eQ hl6 (by rw[Qb];omega) ?_;refine⟨_,_,_,_,_,ns++[nm],rfl,by omega,by simp[hn],?_,λn hn'=>?_,by rw[af];simp,Kp.fresh (DA.le (QQ _ _)) HL (kp6.up (by omega))⟩
  ·rw[X4]
   exact⟨nd,by simp,λa ha b hb e=>hnot (by
    have hb':b=nm:=by simpa using hb
    rw[<-hb',<-e];exact ha)⟩
  rcases Qz.mp hn' with h|h
  ·have g:=good n h;exact g
  have:n=nm:=by simpa using h
  rw[this];exact hnm
 obtain⟨x5,x6,x7,x8,x9,ns,rfl,_,hn,nd,good,hl',kp⟩:=pv;refine s_ret (te:=fO 4) (D:={ nx:=λx H'=>Q V.non H',rt:=Q }) (aE rfl ?_);exact k l ns H' (kp.up (by omega)) HL hn nd good hl'
end
def qz (K:PySem.W.Frag):Sp:=λvs H Q _=>∃(D:Dk) (a:Addr) (xs:List V),vs=[.ref D.d,.ref a]/\D.At H/\SqL K H a xs/\D.n<50000/\xs.length<=100 /\
 ∀l (ys:List V) H',Kp (D.more 100) H H'->H l=none->ys.Perm xs->H' l=some (.lst ys)->Q (.ref l) H'
theorem pick_perm:∀{ls:List V} {k:Nat} {y:V},ls[k]?=some y->(y::ls.eraseIdx k).Perm ls
 | [],_,_,h=>by simp at h
 | x::r,0,y,h=>by simp at h;subst h;exact .refl _
 | x::r,k+1,y,h=>by
  have:=pick_perm (ls:=r) (k:=k) (y:=y) (by simpa using h);rw[List.eraseIdx_cons_succ];exact(List.Perm.swap _ _ _).trans (this.cons _)
section
theorem kQ:FnScope ["pool", "things", "left", "found"] ["pool", "things"] (au (top 40)):=by fin2
theorem uV {f:Addr} {fd:FuncData} (Fu:Fun K "_law_order" "_law_order" (top 40) f fd) (T:Txt K mg TT) (f_law_take:Fn P w K mg base "_law_take" ["pool", "many"] 1 gF):FnOk P w K mg base CX0 2 f fd ["pool", "things"] (qz K):=by
 have S:=kQ;refine Fu.ok S (by room) (λcdv A outer s H vs Q E hr h=>?_);obtain⟨D,a,xs,rfl,DA,hx,dn,x100,k⟩:=h;refine'⟨?_,?bb,?_⟩
 case bb =>
  walk_at "b";exact aG 2 S.nd (bp eL (by rfl) T.n_list PyProof.Rows.boot_list (aa (pv 1) ac ad));exact aG 3 S.nd (pe_lst ac);refine' ge PassesOwn.never ?_ ?_;rotate_left 2;exact(aC (kZ hr.units) (pv 2) (pe_lst ac) (aF _));walk_at "p";exact(bZ (bO QE Q0 Q2 bt (pv 3) (aa (bO QE PySem.F.slot_list_pop PySem.F.type_list_pop u8 (pv 2) (aa (aM f_law_take hr (aa (pv 0) (aa (aq ay (by rfl) T.n_len QL (aa (pv 2) ac ad)) ac se_call) ad)) ac se_call)) ac se_call)));exact(aD (pv 3))
 x_go;lk;refine⟨_,_,rfl,.inl hx,λl hl=>?_⟩;have nl:¬D.own l:=aV DA hl;ctx_has H l H1 S1 q1 ak hl;have kp1:Kp (D.more 0) H H1:=Kp.of DA S1;lk;refine⟨by decide,λp hp=>?_⟩;have np:¬D.own p:=aV (D:=D.more _) kp1.dk hp;have nlp:l≠p:=ao q1 hp;have HP:H p=none:=kp1.free hp;ctx_has H1 p H2 S2 q2 ak hp;have kp2:Kp (D.more 0) H H2:=kp1.trans (Kp.of kp1.dk S2);have q1':=S2 _ _ q1;clear kp1 S1 S2 hp q1;lk;let I9:IvF:=λn U H'=>∃(ls fs:List V),n=ls.length/\fs.length+ls.length=xs.length/\U=[some (.ref D.d),some (.ref a),some (.ref l),some (.ref p)]/\(fs++ls).Perm xs/\H' l=some (.lst ls)/\H' p=some (.lst fs)/\Kp (D.more fs.length) H H';refine⟨I9,⟨_,xs,[],rfl,by simp,rfl,.refl _,q1',q2,kp2⟩,?_⟩;rintro n U H' ⟨ls,fs,rfl,hlen,rfl,pm,hl',hp',kp⟩;lk;refine⟨by decide,λe he=>?_⟩;have Se:=aw (o:=.lst []) he;have hle:=Se _ _ hl';have hpe:=Se _ _ hp';have kpe:Kp (D.more fs.length) H (upd H' e (.lst [])):=kp.trans (Kp.of kp.dk Se);refine⟨l,e,_,[],λ_=>true,rfl,rfl,SqL.of hle,SqL.of af,(λj x y _ h=>by simp at h),⟨_,rfl,?_⟩⟩;generalize upd H' e (.lst [])=H3 at *;refine lA (λhne=>?_) (λhno=>?_)
 ·have nne:ls≠[]:=λz=>by subst z;simp at hne
  have lpos:0<ls.length:=List.length_pos_iff.mpr nne;refine⟨_,λσ' H' w=>⟨ls.length-1,by omega,w⟩,?_⟩;lk;refine bA kpe (by omega) (by omega) (by omega) λr H4 r0 r1 o4 kp4=>?_;have hl4:=o4 _ _ hle nl;have hp4:=o4 _ _ hpe np;have hj:r.toNat<ls.length:=by omega
  have ez:ls[r.toNat]?=some ls[r.toNat]:=Qe hj;refine aZ ?_;refine⟨l,ls,r,r.toNat,_,rfl,rfl,hl4,by omega,by omega,?_,ez,?_⟩
  ·have:ixN ls.length r=some r.toNat:=by unfold ixN;rw[Qs r0,Qs r1]
   exact(lx this).1
  refine aZ ?_;have pz:=pick_perm ez;generalize ls[r.toNat]=z at *;have lz:(ls.eraseIdx r.toNat).length+1=ls.length:=by rw[List.length_eraseIdx];rw[Qs hj];omega
  refine eQ (xs:=fs) (by rw[ah nlp.symm];exact hp4) (by omega) ?_;refine⟨ls.eraseIdx r.toNat,fs++[z],by omega,by rw[Qh];show fs.length+1+_=_;omega,rfl,?_,by rw[ah nlp,af],af,?_⟩
  ·rw[XX];exact(List.Perm.append_left fs pz).trans pm
  have:=Kp.fresh (o:=.lst (fs++[z])) (DA.le (QQ _ _)) HP (Kp.fresh (o:=.lst (ls.eraseIdx r.toNat)) (DA.le (QQ _ _)) hl kp4);rw[Qh];exact this
 have e0:ls=[]:=by
  cases ls with
  | nil=>rfl
  | cons x r=>exact absurd (by simp) hno
 subst e0;lk;exact k p fs H3 (kpe.up (by simp at hlen;omega)) HP (by simpa using pm) hpe
end
theorem TuA.inj {x y:Tu} (h1:TuA H v x) (h2:TuA H v y):x=y:=by
 obtain⟨b,e,q⟩:=h1;subst e;obtain⟨b',e,q'⟩:=h2;cases e;rw[q]at q';have:=HO.tup.inj (QF q');simp only[List.cons.injEq,V.str.injEq]at this;exact Prod.ext this.1 this.2.1
open Classical in
theorem pS {K:PySem.W.Frag} {x t:Tu} (h1:TuA H u x) (h2:TuA H v t):EqD K H (n+2) u v (decide (TuA H u t)):=by
 have e:decide (TuA H u t)=decide (tk2 x=tk2 t):=decide_eq_decide.mpr ⟨λh=>by rw[h1.inj h],λh=>by rw[<-ic h];exact h1⟩;rw[e];obtain⟨a,e,_⟩:=id h1;subst e;obtain⟨b,e,_⟩:=id h2;subst e;exact zD h1.tk h2.tk rfl
open Classical in
theorem di {K:PySem.W.Frag} {t:Tu} (h:H l=some (.lst vs)) (p:Paired (TuA H) vs ts) (hu:TuA H u t) (m:t∈ts) (q:Q (.int (ts.idxOf t:Nat)) H):qP K (.ref l) [u] H Q:=by
 have hi:=QS m;have et:ts[ts.idxOf t]?=some t:=by rw[Qe hi];exact congrArg some (List.getElem_idxOf hi)
 obtain⟨z,ez,hz⟩:=bg p et;refine⟨l,vs,u,λv=>decide (TuA H v t),ts.idxOf t,z,rfl,rfl,SqL.of h,λv hv=>?_,ez,Qv hz,λj v hj ev=>?_,q⟩
 ·obtain⟨i,hi,rfl⟩:=Xf hv;obtain⟨x,_,hx⟩:=paired_get p (Qe hi);exact pS hx hu
 obtain⟨x,ex,hx⟩:=paired_get p ev;refine Qu λz=>?_;cases hx.inj z;have h1:=List.not_of_lt_findIdx (xs:=ts) (p:=(·==t)) (i:=j) hj;obtain⟨h2,e2⟩:=Qd.mp ex;rw[e2]at h1;simp at h1
abbrev Pr:=Tu × Tu
def PrA (H:Hp) (v:V) (p:Pr):Prop:=∃b v1 v2,v=.ref b/\H b=some (.tup [v1,v2])/\TuA H v1 p.1/\TuA H v2 p.2
theorem PrA.kt {p:Pr} (k:bh H H') (h:PrA H v p):PrA H' v p:=let ⟨b,v1,v2,e,q,h1,h2⟩:=h;⟨b,v1,v2,e,k _ _ q,h1.kt k,h2.kt k⟩
open Classical in
theorem zy {K:PySem.W.Frag} {p:Pr} {t:Tu} (hp:PrA H v p) (hu:TuA H u t) (q:Q (.bl (decide (p.1=t) || decide (p.2=t))) H):yT K false u v H Q:=by
 obtain⟨b,v1,v2,rfl,hb,h1,h2⟩:=hp;refine⟨b,_,λv=>decide (TuA H v t),rfl,.inr (SqT.of hb),λv hv=>?_,?_⟩
 ·rcases Qj.mp hv with rfl|hv
  ·exact pS h1 hu
  cases Qy.mp hv;exact pS h2 hu
 have e1:decide (TuA H v1 t)=decide (p.1=t):=decide_eq_decide.mpr ⟨λh=>h1.inj h,λh=>h▸h1⟩;have e2:decide (TuA H v2 t)=decide (p.2=t):=decide_eq_decide.mpr ⟨λh=>h2.inj h,λh=>h▸h2⟩;rw[List.any_cons,List.any_cons,List.any_nil,Bool.or_false,e1,e2];exact q
def ku (t:Tu):List Key:=[.inr t.1,.inr t.2]
def tkR (p:Pr):aB:=[.inr (ku p.1),.inr (ku p.2)]
theorem vt {x y:Tu} (h:ku x=ku y):x=y:=by
 unfold ku at h;simp only[List.cons.injEq,Sum.inr.injEq]at h;exact Prod.ext h.1 h.2.1
theorem kH {x y:Pr} (h:tkR x=tkR y):x=y:=by
 unfold tkR at h;simp only[List.cons.injEq,Sum.inr.injEq]at h;exact Prod.ext (vt h.1) (vt h.2.1)
theorem PrA.tk {p:Pr} (h:PrA H (.ref b) p):bS H (tkR p) b:=by
 obtain⟨_,v1,v2,e,q,⟨c,e1,h1⟩,d,e2,h2⟩:=h;cases e;subst e1 e2;exact⟨_,q,.cons ⟨c,rfl,h1⟩ (.cons ⟨d,rfl,h2⟩ .nil)⟩
theorem PrA.of {p:Pr} (h:bS H (tkR p) b):PrA H (.ref b) p:=by
 obtain⟨vs,q,pr⟩:=h
 cases pr with
 | cons r1 pr=>cases pr with
  | cons r2 pr =>
   cases pr;obtain⟨c,e1,h1⟩:=r1;obtain⟨d,e2,h2⟩:=r2;subst e1 e2;exact⟨b,_,_,rfl,q,⟨c,rfl,h1⟩,d,rfl,h2⟩
structure PrOk (ws:List Str) (p:Pr):Prop where
 o:dF ws p.1
 t:dF ws p.2
 ne:p.1≠p.2
structure MkD (H:Hp) (a:Addr) (ws:List Str) (kvs:List (aB × V)) (n:Nat):Prop where
 h:H a=some (.dT kvs)
 l:kvs.length<=n
 ok:∀kv∈kvs,∃p:Pr,kv.1=tkR p/\PrOk ws p/\∃m:Int,kv.2=.int m/\(m=0\/m=1)
 nd:(kvs.map (·.1)).Nodup
theorem ve {k:aB} {kv:aB × V} (h:kv∈bv kvs k v):kv∈kvs\/kv=(k,v):=by
 unfold bv at h
 split at h
 ·obtain⟨x,hx,e⟩:=Qm.mp h;by_cases c:x.1=k
  ·rw[Qs c]at e;exact .inr (by rw[<-e,c])
  rw[Qo c]at e;exact .inl (e▸hx)
 rcases Qz.mp h with h|h
 ·exact .inl h
 exact .inr (Qy.mp h)
theorem dZ (kvs:List (aB × V)) (k:aB) (v:V):(k∈kvs.map (·.1)/\(bv kvs k v).map (·.1)=kvs.map (·.1))\/(k∉kvs.map (·.1)/\(bv kvs k v).map (·.1)=kvs.map (·.1)++[k]):=by
 cases e:aU kvs k with
 | none=>exact .inr ⟨eS e,by rw[eX v e,QI];rfl⟩
 | some u =>
 refine .inl ⟨qj e,?_⟩;unfold bv;rw[cS,e];rw[Qs (show (some u).isSome=true from rfl),Q3];refine XS λx _=>?_;show (if x.1=k then (x.1,v) else x).1=x.1
 split <;> rfl
theorem MkD.put {H':Hp} {ws:List Str} {n:Nat} {p:Pr} {m:Int} (d:MkD H a ws kvs n) (ok:PrOk ws p) (hm:m=0\/m=1) (e:H' a=some (.dT (bv kvs (tkR p) (.int m)))):MkD H' a ws (bv kvs (tkR p) (.int m)) (n+1):=by
 refine⟨e,QJ (bX _ _ _) (Nat.succ_le_succ d.l),λkv h=>?_,?_⟩
 ·rcases ve h with h|rfl
  ·exact d.ok kv h
  exact⟨p,rfl,ok,m,rfl,hm⟩
 rcases dZ kvs (tkR p) (.int m) with⟨_,e⟩|⟨c,e⟩
 ·rw[e];exact d.nd
 rw[e];exact qY d.nd c
theorem MkD.set {ws:List Str} {p:Pr} {m:Int} (d:MkD H a ws kvs n) (hp:tkR p∈kvs.map (·.1)) (ok:PrOk ws p) (hm:m=0\/m=1) (e:H' a=some (.dT (bv kvs (tkR p) (.int m)))):MkD H' a ws (bv kvs (tkR p) (.int m)) n:=by
 have q:=d.put ok hm e;refine⟨q.h,?_,q.ok,q.nd⟩;rcases dZ kvs (tkR p) (.int m) with⟨_,e⟩|⟨c,_⟩
 ·have:=congrArg List.length e;rw[Qb,Qb]at this;rw[this];exact d.l
 exact absurd hp c
theorem MkD.same {H':Hp} {ws:List Str} (d:MkD H a ws kvs n) (e:∀o,H a=some o->H' a=some o):MkD H' a ws kvs n:=⟨e _ d.h,d.l,d.ok,d.nd⟩
theorem MkD.val {ws:List Str} {p:Pr} (d:MkD H a ws kvs n) (h:tkR p∈kvs.map (·.1)):PrOk ws p/\∃m:Int,aU kvs (tkR p)=some (.int m)/\(m=0\/m=1):=by
 cases e:aU kvs (tkR p) with
 | none=>exact absurd h (eS e)
 | some v =>
 unfold aU at e;obtain⟨kv,hf,rfl⟩:=Q8.mp e;have h1:=List.find?_some hf;obtain⟨p',e1,ok,m,e2,hm⟩:=d.ok kv (List.mem_of_find?_eq_some hf);have h1:kv.1=tkR p:=Xu h1;cases kH (e1.symm.trans h1);exact⟨ok,m,by rw[e2],hm⟩
theorem cmK {K:PySem.W.Frag} {g:TG} {te:TE} {tt:L2.TT} {QD:Hp->Prop} {xs:List α} {I:V->α->Prop} (R:Hp->V->α->Prop) (DA:D.At H1) (hL:H1 L=none) (e:H1 a=some (.lst vs)) (na:¬D.own a) (pa:Paired I vs xs) (few:xs.length<=100000) (mono:∀H H' v x,bh H H'->R H v x->R H' v x)
  (hs:∀i v x H,i<xs.length->I v x->x∈xs->Kp (D.more i) H1 H->∀(G:V->Hp->Prop) (N:Hp->Prop),(∀u H2,Kp (D.more (i+1)) H H2->R H2 u x->G u H2)->(∀H2,Kp (D.more (i+1)) H H2->N H2)->g v σ0 H λσ2 H2=>wk σ0 σ2/\tt σ2 H2 λb H3=>if b=true then te σ2 H3 G else N H3)
  (hd:∀H ys zs,Kp (D.more xs.length) H1 H->H L=some (.lst ys)->zs.Sublist xs->Paired (R H) ys zs->QD H) :
  ∃W:Nat->Nat->Hp->List V->Prop,(∃m,W 0 m (upd H1 L (.lst [])) [])/\∀i m H ys,W i m H ys->H L=some (.lst ys)/\(((Itl K a).stop i H/\QD H)\/((Itl K a).go i H/\∀x H',(Itl K a).yld i H x H'->g x σ0 H' λσ2 H2=>wk σ0 σ2/\tt σ2 H2 λb H3 =>
   if b=true then te σ2 H3 λv H4=>H4 L=some (.lst ys)/\ys.length<sizeLine/\∃m',m'<m/\W (i+1) m' (upd H4 L (.lst (ys++[v]))) (ys++[v]) else ∃m',m'<m/\W (i+1) m' H3 ys)):=by
 have l:=av pa;have nL:¬D.own L:=aV DA hL;refine⟨λi m H ys=>m=xs.length-i/\i<=xs.length/\Kp (D.more i) H1 H/\H L=some (.lst ys)/\∃zs,zs.Sublist (xs.take i)/\Paired (R H) ys zs,⟨_,rfl,QR _,Kp.of DA (aw hL),af,[],List.nil_sublist _,.nil⟩,?_⟩;rintro i m H ys ⟨rfl,hi,kp,hy,zs,sb,p⟩;refine⟨hy,?_⟩;have ea:=kp.old _ _ e na;by_cases hl:i<xs.length
 ·refine .inr ⟨⟨vs,vs[i]'(by omega),SqL.of ea,Qe _⟩,λv H' y=>?_⟩;obtain⟨e',y⟩:=y;subst e';have ex:xs[i]?=some xs[i]:=Qe hl;have hm:xs.length-(i+1)<xs.length-i:=by omega
  obtain⟨v',ev,r⟩:=bg pa ex;cases ev.symm.trans (y vs (SqL.of ea));have st:xs.take i++[xs[i]]=xs.take (i+1):=by rw[XH,ex];rfl
  refine hs i v xs[i] _ hl r (Qk ex) kp _ _ (λu H2 k2 ru=>?_) (λH2 k2=>?_)
  ·have yl:ys.length<=xs.length:=by
    rw[av p];refine QJ sb.length_le ?_;rw[QO];omega
   have hy2:=k2.old _ _ hy nL;have kt:=cM (o:=.lst (ys++[u])) hy2;have kt2:=Kp.tups (kp.dk.le (Nat.add_le_add_left (X3 _) _)) k2;refine⟨hy2,XY yl (XY few (by decide)),_,hm,rfl,hl,Kp.fresh (DA.le (QQ _ _)) hL (kp.trans k2),af,zs++[xs[i]],?_,?_⟩
   ·rw[<-st];exact sb.append (List.Sublist.refl _)
   exact ba (ag (λv x r=>mono _ _ v x kt (mono _ _ v x kt2 r)) p) (mono _ _ u _ kt ru)
  have kt2:=Kp.tups (kp.dk.le (Nat.add_le_add_left (X3 _) _)) k2;exact⟨_,hm,rfl,hl,kp.trans k2,k2.old _ _ hy nL,zs,by rw[<-st];exact sb.trans (List.sublist_append_left _ _),ag (λv x r=>mono _ _ v x kt2 r) p⟩
 obtain rfl:i=xs.length:=by omega
 rw[QV (Qg _)]at sb;exact .inl ⟨⟨vs,SqL.of ea,by omega⟩,hd H ys zs kp hy sb p⟩
theorem lL {xs:List V} {i:Int} (h0:-(xs.length:Int)<=i) (h1:i<xs.length):∃v,atI xs i=some v/\v∈xs:=by
 unfold atI ixN;by_cases c:0<=i
 ·rw[Qs c,Qs h1];exact⟨xs[i.toNat]'(by omega),Qe _,Q9 _⟩
 rw[Qo c,Qs h0];exact⟨xs[(i+xs.length).toNat]'(by omega),Qe _,Q9 _⟩
theorem dX {F:α->β->Prop} {xs:List α} {ys:List β} (p:Paired F xs ys) {x:α} (h:x∈xs):∃y∈ys,F x y:=by
 obtain⟨i,hi,rfl⟩:=Xf h;obtain⟨y,e,r⟩:=paired_get p (Qe hi);exact⟨y,Qk e,r⟩
theorem tI (p:Paired (TuA H) vs ts):∀x∈vs,∃a,x=V.ref a:=λx hx=>by
 obtain⟨_,_,b,e,_⟩:=dX p hx;exact⟨b,e⟩
theorem eZ:∀(ns:List Str),Paired (λv n=>v=V.str n) (ns.map V.str) ns
 | []=>.nil
 | _::ns=>.cons rfl (eZ ns)
theorem wA {t u:L2.TT} {R:Bool->Hp->Prop} (J:Hp->Prop) (hT:∀H',J H'->R true H') (hF:∀H',J H'->R false H') (h:∀(R':Bool->Hp->Prop),(∀b H',J H'->R' b H')->tOr t u U H R'):tOr t u U H R:=h R λb H' j=>by
 cases b
 ·exact hF H' j
 exact hT H' j
variable {o:HO}
theorem eG {D:Addr} (h:H D=some (.dT kvs)):bh H (upd H D o):=λb ys e=>by
 rw[ah (λz=>by rw[z,h]at e;cases e)];exact e
theorem bit (b:Bool):(if b=true then (1:Int) else 0)=0\/(if b=true then (1:Int) else 0)=1:=by cases b <;> simp
structure AI (D:Dk) (H H':Hp) (Lm Lq:Addr) (ws:List Str) (c n:Nat) (pv:List V) (ps:List Pr):Prop where
 kp:Kp (D.more c) H H'
 m:H' Lm=some (.dT [])
 q:H' Lq=some (.lst pv)
 pp:Paired (PrA H') pv ps
 ok:∀p∈ps,dF ws p.1/\dF ws p.2
 l:ps.length<=n
section
variable {D:Dk} {H H' H2:Hp} {Lm Lq:Addr} {ws:List Str} {c n:Nat} {pv:List V} {ps:List Pr}
theorem Kp.kt {k:Nat} (kp:Kp (D.more k) H H') (old:∀b o,H' b=some o->¬D.own b->H2 b=some o):bh H' H2:=λb xs e=>old b _ e (iS (D:=D.more k) kp.dk e (λ_ z=>nomatch z))
theorem AI.draw {c':Nat} (i:AI D H H' Lm Lq ws c n pv ps) (DA:D.At H) (hm:H Lm=none) (hq:H Lq=none) (old:∀b o,H' b=some o->¬D.own b->H2 b=some o) (k:Kp (D.more c') H H2):AI D H H2 Lm Lq ws c' n pv ps :=
 ⟨k,old _ _ i.m (aV DA hm),old _ _ i.q (aV DA hq),ag (λ_ _ h=>h.kt (i.kp.kt old)) i.pp,i.ok,i.l⟩
theorem AI.same (i:AI D H H' Lm Lq ws c n pv ps) (S:aj H' H2):AI D H H2 Lm Lq ws c n pv ps :=
 ⟨i.kp.trans (Kp.of i.kp.dk S),S _ _ i.m,S _ _ i.q,ag (λ_ _ h=>h.kt (aj.tups S)) i.pp,i.ok,i.l⟩
theorem AI.add {v:V} {p:Pr} (i:AI D H H' Lm Lq ws c n pv ps) (DA:D.At H) (hq:H Lq=none) (pa:PrA H' v p) (ok:dF ws p.1/\dF ws p.2):AI D H (upd H' Lq (.lst (pv++[v]))) Lm Lq ws c (n+1) (pv++[v]) (ps++[p]):=by
 have kt:bh H' (upd H' Lq (.lst (pv++[v]))):=cM i.q;refine⟨Kp.fresh (DA.le (QQ _ _)) hq i.kp,by rw[ah (λz=>by have:=i.m;rw[z,i.q]at this;cases this)];exact i.m,af,ba (ag (λ_ _ h=>h.kt kt) i.pp) (pa.kt kt),λp' hp'=>?_,by rw[Qh];exact Nat.succ_le_succ i.l⟩;rcases Qz.mp hp' with h|h
 ·exact i.ok p' h
 rw[Qy.mp h];exact ok
end
def ue:Sp:=λvs H Q _=>∃(D:Dk) (o nl:Addr) (ov:List V) (ots:List Tu) (ws:List Str),vs=[.ref D.d,.ref o,.ref nl]/\D.At H/\D.n<50000/\H o=some (.lst ov)/\Paired (TuA H) ov ots/\H nl=some (.lst (ws.map V.str))/\(∀t,t∈ots↔dF ws t)/\1<=ots.length/\ots.length<=10/\ws.length<=5 /\
 ∀a kvs H',Kp (D.more 70) H H'->H a=none->MkD H' a ws kvs 52->Q (.ref a) H'
section
theorem mG:FnScope ["pool", "order", "names", "marks", "pairs", "turn", "at", "one", "other"] ["pool", "order", "names"] (au (top 41)):=by fin2
theorem wR {f:Addr} {fd:FuncData} (Fu:Fun K "_law_arcs" "_law_arcs" (top 41) f fd) (T:Txt K mg TT) (f_law_take:Fn P w K mg base "_law_take" ["pool", "many"] 1 gF):FnOk P w K mg base CX0 2 f fd ["pool", "order", "names"] ue:=by
 have S:=mG;refine Fu.ok S (by room) (λcdv A outer s H vs Q E hr h=>?_);obtain⟨D,o,nl,ov,ots,ws,rfl,DA,dn,ho,po,hnl,all,o1,o10,w5,k⟩:=h;have hu:=cV hr;refine'⟨?_,?bb,?_⟩
 case bb =>
  walk_at "b";exact aG 3 S.nd uI;exact(mK (j:=4) S.nd rfl (by z_go) (tgs:=["name"]) (cap:=[("pool", 0)]) rfl ⟨rfl,rfl,rfl,rfl,rfl,rfl⟩ (bi (pv 2)) (λ_ _ _ _=>(bw (i:=0) (show List.Nodup [("name" : Str),("pool" : Str)] by decide +kernel) rfl (by z_go))) (λ_ _ _ _=>(eY (aC iR (aM f_law_take hr (aa (pv 1) (aa ae ac aP) ad)) ae (aF _)))) (λ_ _ _ _=>(pe_tup (aa (pe_tup (aa (pv 0) (aa bj ac aP) ad)) (aa (pe_tup (aa (pv 0) (aa bj ac aP) ad)) ac se_tup) se_tup))));walk_at "f";exact(dU (by rfl) T.n_range (aa (aM f_law_take hr (aa (pv 0) (aa (am aX (pe_lst (aa ae (aa ae ac aP) aP)) (aM f_law_take hr (aa (pv 0) (aa ae ac aP) ad))) ac) ad)) ac se_call));exact(bB 5 S.nd);walk_at "p";refine' bZ (bO QE Q0 Q2 bt (pv 4) ?a)
  case a =>
   walk_at "q";exact(am aX (pv 1) (aM f_law_take hr (aa (pv 0) (aa (aq ay (by rfl) T.n_len QL (aa (pv 1) ac ad)) ac se_call) ad)));exact(am aX (pv 1) (aM f_law_take hr (aa (pv 0) (aa (aq ay (by rfl) T.n_len QL (aa (pv 1) ac ad)) ac se_call) ad)))
  walk_at "f";exact(kY (by rfl) T.n_enumerate (aa (pv 1) ac ad));exact(dQ rfl (aH (bB 6 S.nd) (aH (bB 5 S.nd) bL)));walk_at "p";exact(aC (pf hr.units) (jQ (tgs:=["pair"]) (cap:=[("turn", 5)]) rfl ⟨rfl,rfl,rfl,rfl,rfl,rfl⟩ (bi (pv 4)) (λ_ _ _ _=>(bw (i:=0) (show List.Nodup [("pair" : Str),("turn" : Str)] by decide +kernel) rfl (by z_go))) (λ_ _ _ _=>(eY (aC (wC (K:=K) rfl hr.units) (pv 1) (pv 0) rfl))) (λ_ _ _ _=>ae)) (pe_lst ac) (aF _));refine' bZ (bO QE Q0 Q2 bt (pv 4) ?a)
  case a =>
   walk_at "q";exact(am aX (pv 1) (aO fU (pv 6) ae));exact(pv 5)
  walk_at "f";exact(bi (pv 4));exact(dQ rfl (aH (bB 7 S.nd) (aH (bB 8 S.nd) bL)));walk_at "p";exact(aC (pc hr.units) (pv 7) (pv 8) (aF _));exact(eB hu (pv 3) (pe_tup (aa (pv 7) (aa (pv 8) ac ad) ad)) (bp bN (by rfl) T.n_int Xo (aa (bn iR (bO QE Xk Xl (dh hr.units) (pv 1) (aa (pv 7) ac ad)) (bO QE Xk Xl (dh hr.units) (pv 1) (aa (pv 8) ac ad)) (aF _)) ac)) rfl);exact(PW.pt (dR (aC iR (aM f_law_take hr (aa (pv 0) (aa ae ac aP) ad)) ae (aF _)) (dv (aC cC (am aA (pv 7) ae) (am aA (pv 8) ae) (aF _)))));exact(eB hu (pv 3) (pe_tup (aa (pv 8) (aa (pv 7) ac ad) ad)) (aO fU ae (dL hu (pv 3) (pe_tup (aa (pv 7) (aa (pv 8) ac ad) ad)))) rfl);exact(aD (pv 3))
 x_go;have no_:¬D.own o:=iS DA ho (λxs e=>by cases e;exact pB (tI po));have nn_:¬D.own nl:=iS DA hnl (λxs e=>by cases e;exact pA ws);lk;refine λLm hLm=>?_;generalize hE:upd H Lm _=H1;obtain⟨S1,q1⟩:=ak hLm hE;have DA1:=DA.same S1;refine az ?_;lk;refine bC (s_list (aE rfl ⟨nl,rfl,⟨_,SqL.of (S1 _ _ hnl)⟩,λLq hLq1=>?_⟩));have hLq:=bP S1 hLq1;refine cmK (I:=λv n=>v=V.str n) (xs:=ws) (λH v nm=>PrA H v ((nm, "+"),(nm, "-"))) DA1 hLq1 (S1 _ _ hnl) nn_ (eZ ws) (by omega) (λH H' v x k h=>h.kt k) (λi v x H' hi ev mx kp G N hG hN=>?_) (λH' ys zs kp hy sb pz=>?_)
 ·subst ev;refine az ⟨⟨rfl,trivial⟩,?_⟩;lk;refine bA kp (by omega) (by omega) (by omega) λr H2 r0 r1 o2 kp2=>?_;lk;have k2:Kp (D.more (i+1)) H' H2:=⟨o2,kp2.dk⟩;cases decide (0<r)
  ·exact iteF (hN H2 k2)
  refine cu ?_;lk;refine⟨by simp[sizeLine],λp1 h1=>?_⟩;generalize hE:upd H2 p1 _=H3;obtain⟨S3,q3⟩:=ak h1 hE;lk;refine⟨by simp[sizeLine],λp2 h2=>?_⟩;generalize hE:upd H3 p2 _=H4;obtain⟨S4,q4⟩:=ak h2 hE;lk;refine⟨by simp[sizeLine],λp3 h3=>?_⟩;generalize hE:upd H4 p3 _=H5;obtain⟨S5,q5⟩:=ak h3 hE;exact hG _ H5 (k2.trans (Kp.of k2.dk ((S3.trans S4).trans S5))) ⟨p3,_,_,rfl,q5,⟨p1,rfl,S5 _ _ (S4 _ _ q3)⟩,p2,rfl,S5 _ _ q4⟩
 have ai:AI D H H' Lm Lq ws 5 5 ys (zs.map λnm=>((nm, "+"),(nm, "-"))):=by
  have kpH:Kp (D.more ws.length) H H':=(Kp.of (D:=D.more ws.length) (DA.le (QQ _ _)) S1).trans kp;refine⟨kpH.up w5,kp.old _ _ q1 (aV (D:=D) DA hLm),hy,bV (f:=λnm:Str=>(((nm, "+"),(nm, "-")):Pr)) pz,λp hp=>?_,by rw[Qb];exact QJ sb.length_le w5⟩;obtain⟨nm,hn,rfl⟩:=Qm.mp hp;have:=sb.subset hn;exact⟨⟨this,.inl rfl⟩,this,.inr rfl⟩
 generalize (zs.map λnm=>(((nm, "+"),(nm, "-")):Pr))=ps at ai;clear pz sb zs kp hy;lk;have ordA:∀{H':Hp} {k:Nat},Kp (D.more k) H H'->H' o=some (.lst ov)/\Paired (TuA H') ov ots:=λ{H' k} kp=>⟨kp.old _ _ ho no_,ag (λ_ _ h=>h.kt (Kp.tups (D:=D.more k) (DA.le (QQ _ _)) kp)) po⟩;have pol:=av po
 have pick:∀{H':Hp} {k:Nat} {r:Int},Kp (D.more k) H H'->-(ov.length:Int)<=r->r<ov.length->∃v t,atI ov r=some v/\TuA H' v t/\dF ws t:=λ{H' k r} kp h0 h1=>by
  obtain⟨v,e,hv⟩:=lL h0 h1;obtain⟨t,ht,tu⟩:=dX (ordA kp).2 hv;exact⟨v,t,e,tu,(all t).mp ht⟩
 refine⟨by decide,λp0 hp0=>?_⟩;generalize hE:upd H' p0 _=H2;obtain⟨S2,q2⟩:=ak hp0 hE;have np0:¬D.own p0:=aV (D:=D.more _) ai.kp.dk hp0;have ai2:=ai.same S2;lk;refine bA ai2.kp (by omega) (by omega) (by omega) λr H3 r0 r1 o3 kp3=>?_;have ai3:=ai2.draw DA hLm hLq o3 kp3
 have at3:∃m:Int,atI [V.int 3,V.int 12] r=some (.int m)/\1<=m/\m<=12:=by
  have:r=0\/r=1:=by omega
  rcases this with rfl|rfl
  ·exact⟨3,rfl,by decide,by decide⟩
  exact⟨12,rfl,by decide,by decide⟩
 obtain⟨m,em,m1,m12⟩:=at3;refine i_ixL (SqL.of (o3 _ _ q2 np0)) em ?_;lk;refine bA ai3.kp (by omega) (by omega) (by omega) λr H4 r0 r1 o4 kp4=>?_;have ai4:=ai3.draw DA hLm hLq o4 kp4;clear ai ai2 ai3 o3 o4 kp3 kp4 S2 q2 hE;refine aZ ⟨r,rfl,by omega,by omega,?_⟩;let I10:IvF:=λi U H'=>∃pv ps y,U=[some (.ref D.d),some (.ref o),some (.ref nl),some (.ref Lm),some (.ref Lq),y,none,none,none]/\AI D H H' Lm Lq ws (7+2*i) (5+i) pv ps;refine gS I10 ⟨_,_,_,rfl,ai4⟩ (λi U H' hi h=>?_) (λU H' h=>?_)
 ·obtain⟨pv,ps,y,rfl,ai⟩:=h;have hq:=ai.q;have hoo:=(ordA ai.kp).1;refine az ?_;lk;refine bA ai.kp (by omega) (by omega) (by omega) λr H2 r0 r1 o2 kp2=>?_;have ai2:=ai.draw DA hLm hLq o2 kp2;obtain⟨v1,t1,e1,tu1,ok1⟩:=pick kp2 (r:=r) (by omega) r1;refine i_ixL (SqL.of (ordA kp2).1) e1 ?_;have hoo:=(ordA ai2.kp).1;lk;refine bA ai2.kp (by omega) (by omega) (by omega) λr H3 r0 r1 o3 kp3=>?_;have ai3:=ai2.draw DA hLm hLq o3 kp3;obtain⟨v2,t2,e2,tu2,ok2⟩:=pick kp3 (r:=r) (by omega) r1;refine i_ixL (SqL.of (ordA kp3).1) e2 ?_;lk;refine⟨by simp[sizeLine],λp4 hp4=>?_⟩;generalize hE:upd H3 p4 _=H4;obtain⟨S4,q4⟩:=ak hp4 hE;have ai4:=ai3.same S4;have:=ai4.l;refine aZ (eQ ai4.q (by rw[av ai4.pp];omega) ?_);exact⟨_,_,_,rfl,ai4.add (p:=(t1,t2)) DA hLq ⟨p4,_,_,rfl,q4,(tu1.kt (kp2.kt o3)).kt (aj.tups S4),tu2.kt (aj.tups S4)⟩ ⟨ok1,ok2⟩⟩
 obtain⟨pv,ps,y,rfl,ai⟩:=h;have ai:AI D H H' Lm Lq ws 29 16 pv ps:=⟨ai.kp.up (by omega),ai.m,ai.q,ai.pp,ai.ok,by have:=ai.l;omega⟩;have hoo:=(ordA ai.kp).1;lk;refine aY (aE rfl (aZ ⟨o,rfl,⟨_,SqL.of hoo⟩,?_⟩));let I11:IvF:=λi U H'=>∃pv ps y5 y6,U=[some (.ref D.d),some (.ref o),some (.ref nl),some (.ref Lm),some (.ref Lq),y5,y6,none,none]/\AI D H H' Lm Lq ws 29 (16+i) pv ps;refine i8 (xs:=ov) I11 ⟨_,_,_,_,rfl,ai⟩ (λi U H' _ ⟨_,_,_,_,_,ai⟩=>SqL.of (ordA ai.kp).1) (λi x U H' TA ex h hT=>?_) (λU H' h=>?_)
 ·obtain⟨pv,ps,y5,y6,rfl,ai⟩:=h;have hi:=(Qd.mp ex).1;generalize hE:upd H' TA _=H2;obtain⟨S2,q2⟩:=ak hT hE;have ai2:=ai.same S2;obtain⟨t,et,tu⟩:=paired_get (ordA ai2.kp).2 ex;have tkt:=(all t).mp (Qk et);refine⟨TA,_,rfl,SqT.of q2,rfl,_,_,rfl,az ⟨_,_,rfl,az ⟨rfl,?_⟩⟩⟩;lk;refine bC (s_list (aE rfl ⟨Lq,rfl,⟨_,SqL.of ai2.q⟩,λLc hLc=>?_⟩));refine eK (λp=>decide (p.1=t) || decide (p.2=t)) (λH v p=>v=.int 1) hLc ai2.q ai2.pp (by have:=ai2.l;omega) (λH H' v x k h=>h) (λv p H3 pa mp S3 G N hG hN=>?_) (λH3 ys S3 hy pz=>?_)
  ·refine az ⟨⟨rfl,trivial⟩,?_⟩;lk;refine zy (pa.kt (aj.tups S3)) (tu.kt (aj.tups S3)) ⟨_,rfl,?_⟩;cases cc:(decide (p.1=t) || decide (p.2=t))
   ·exact iteF (hN cc H3 (aj.refl _))
   exact cu (hG cc _ H3 (aj.refl _) rfl)
  refine qL hy λH4 S4=>?_;have ai4:=ai2.same (S3.trans S4);cases decide (ys.length=0)
  ·exact iteF (s_next ⟨_,_,_,_,rfl,ai4.kp,ai4.m,ai4.q,ai4.pp,ai4.ok,QJ ai4.l (X3 _)⟩)
  refine cu ?_;have hq4:=ai4.q;lk;obtain⟨v1,t1,e1,tu1,ok1⟩:=pick ai4.kp (r:=(i:Int)-1) (by omega) (by omega);refine i_ixL (SqL.of (ordA ai4.kp).1) e1 ?_;lk;refine⟨by simp[sizeLine],λp4 hp4=>?_⟩;generalize hE:upd H4 p4 _=H5;obtain⟨S5,q5⟩:=ak hp4 hE;have ai5:=ai4.same S5;have:=ai5.l;refine aZ (eQ ai5.q (by rw[av ai5.pp];omega) ?_);exact⟨_,_,_,_,rfl,ai5.add (p:=(t1,t)) DA hLq ⟨p4,_,_,rfl,q5,tu1.kt (aj.tups S5),tu.kt (aj.tups ((S3.trans S4).trans S5))⟩ ⟨ok1,tkt⟩⟩
 obtain⟨pv,ps,y5,y6,rfl,ai⟩:=h;have pl:=av ai.pp;have p26:pv.length<=26:=by have:=ai.l;omega
 lk;refine⟨Lq,rfl,⟨_,SqL.of ai.q⟩,?_⟩;have nq:¬D.own Lq:=aV DA hLq;have nm:¬D.own Lm:=aV DA hLm;have aip:=ai.pp;have Hk:=ai.kp;generalize hHC:H'=HC at ai aip Hk;subst hHC;let I12:IvF:=λi U H'=>∃kvs y7 y8,U=[some (.ref D.d),some (.ref o),some (.ref nl),some (.ref Lm),some (.ref Lq),y5,y6,y7,y8]/\Kp (D.more (29+i)) H H'/\H' Lq=some (.lst pv)/\Paired (PrA H') pv ps/\MkD H' Lm ws kvs (2*i);refine cE (xs:=pv) I12 ⟨[],_,_,rfl,ai.kp,ai.q,ai.pp,ai.m,QR _,(λ_ h=>nomatch h),.nil⟩ (λi U H' _ ⟨_,_,_,_,_,h,_⟩=>SqL.of h) (λi x U H' ex h=>?_) (λU H' h=>?_)
 ·obtain⟨kvs,y7,y8,rfl,kp,hq,pp,md⟩:=h;have hi:=(Qd.mp ex).1;obtain⟨p,ep,pa⟩:=paired_get pp ex;have pok:=ai.ok p (Qk ep);obtain⟨b,v1,v2,rfl,hb,tu1,tu2⟩:=pa;refine⟨b,_,rfl,SqT.of hb,rfl,_,_,rfl,az ⟨_,_,rfl,az ⟨rfl,?_⟩⟩⟩;lk;refine eJ tu1 tu2 ⟨_,rfl,?_⟩;by_cases ce:p.1=p.2
  ·exact ifF (by rw[Qv ce];rfl) (s_next ⟨kvs,_,_,rfl,kp.up (by omega),hq,pp,md.h,QJ md.l (by omega),md.ok,md.nd⟩)
  refine ifT (by rw[Qu ce];rfl) ?_;have hoo:=ordA kp;have ho1:=hoo.1;have mq:Lm≠Lq:=λz=>by have:=md.h;rw[z,hq]at this;cases this
  kt_k;refine fT ?_;lk;refine di ho1 hoo.2 tu1 ((all _).mpr pok.1) ?_;lk;refine di ho1 hoo.2 tu2 ((all _).mpr pok.2) ?_;lk;refine⟨by simp[sizeLine],λp3 h3=>?_⟩;have hm:=bit (decide (((ots.idxOf p.2:Nat):Int)<(ots.idxOf p.1:Nat)));generalize (if (decide (((ots.idxOf p.2:Nat):Int)<(ots.idxOf p.1:Nat)))=true then (1:Int) else 0)=m at hm ⊢;generalize hE:upd H' p3 _=H2;obtain⟨S2,q2⟩:=ak h3 hE;have pa2:PrA H2 (.ref p3) p:=⟨p3,_,_,rfl,q2,tu1.kt (aj.tups S2),tu2.kt (aj.tups S2)⟩;have hm2:=S2 _ _ md.h;have:=md.l;refine⟨Lm,_,rfl,gD.t hm2 pa2.tk (by omega),?_⟩;generalize hE3:upd H2 Lm _=H3;have q3:H3 Lm=some (.dT (bv kvs (tkR p) (.int m))):=by rw[<-hE3];exact af
  have kt3:bh H' H3:=λb ys e=>by rw[<-hE3];exact eG hm2 _ _ (S2 _ _ e)
  have hq3:H3 Lq=some (.lst pv):=by rw[<-hE3,ah mq.symm];exact S2 _ _ hq
  have md3:=md.put (H':=H3) ⟨pok.1,pok.2,ce⟩ hm q3;have kp3:Kp (D.more (29+i)) H H3:=by rw[<-hE3];exact Kp.fresh (DA.le (QQ _ _)) hLm (kp.trans (Kp.of kp.dk S2))
  kt_k;refine wA (λH4=>Kp (D.more (29+i+1)) H H4/\∀b o,H3 b=some o->¬D.own b->H4 b=some o) (λH4 j=>cu ?_) (λH4 j=>iteF ?_) (λR' hR=>?_)
  ·obtain⟨kp4,o4⟩:=j;have kt4:bh H' H4:=λb ys e=>kp3.kt o4 _ _ (kt3 _ _ e);have md4:=md3.same (H':=H4) λo e=>o4 _ _ e nm;have tu14:=tu1.kt kt4;have tu24:=tu2.kt kt4;refine fT ?_;lk;refine⟨by simp[sizeLine],λp5 h5=>?_⟩;generalize hE:upd H4 p5 _=H5;obtain⟨S5,q5⟩:=ak h5 hE;have pa5:PrA H5 (.ref p5) p:=⟨p5,_,_,rfl,q5,tu14.kt (aj.tups S5),tu24.kt (aj.tups S5)⟩;have hm5:=S5 _ _ md4.h;refine⟨Lm,_,rfl,by have z:=cF.t hm5 pa5.tk;rw[cR,Qs rfl]at z;exact z,?_⟩;lk;refine⟨by simp[sizeLine],λp6 h6=>?_⟩;generalize hE:upd H5 p6 _=H6;obtain⟨S6,q6⟩:=ak h6 hE;have S56:=S5.trans S6;have pa6:PrA H6 (.ref p6) (p.2,p.1):=⟨p6,_,_,rfl,q6,tu24.kt (aj.tups S56),tu14.kt (aj.tups S56)⟩;have hm6:=S6 _ _ hm5;refine⟨Lm,_,rfl,gD.t hm6 pa6.tk (by have:=bX kvs (tkR p) (.int m);omega),?_⟩;have md6:=md4.put (H':=upd H6 Lm (.dT (bv (bv kvs (tkR p) (.int m)) (tkR (p.2,p.1)) (.int (1-m))))) (p:=(p.2,p.1)) (m:=1-m) ⟨pok.2,pok.1,λz=>ce z.symm⟩ (by omega) af;refine⟨_,_,_,rfl,Kp.fresh (DA.le (QQ _ _)) hLm (kp4.trans (Kp.of kp4.dk S56)),by rw[ah mq.symm];exact S56 _ _ (o4 _ _ hq3 nq),ag (λ_ _ h=>h.kt λb ys e=>eG hm6 _ _ (S56 _ _ (kt4 _ _ e))) pp,md6⟩
  ·obtain⟨kp4,o4⟩:=j;have kt4:bh H' H4:=λb ys e=>kp3.kt o4 _ _ (kt3 _ _ e);have md4:=md3.same (H':=H4) λo e=>o4 _ _ e nm;exact s_next ⟨_,_,_,rfl,kp4,o4 _ _ hq3 nq,ag (λ_ _ h=>h.kt kt4) pp,md4.h,QJ md4.l (by omega),md4.ok,md4.nd⟩
  obtain⟨a1,rfl,ha1⟩:=tu1.kt kt3;obtain⟨a2,rfl,ha2⟩:=tu2.kt kt3;lk;refine bA kp3 (by omega) (by omega) (by omega) λr H4 r0 r1 o4 kp4=>?_;have kt4:=kp3.kt o4;have ha14:=kt4 _ _ ha1;have ha24:=kt4 _ _ ha2;lk;cases decide (0<r)
  ·refine iteF ?_;lk;exact hR _ _ ⟨kp4,o4⟩
  exact cu (hR _ _ ⟨kp4,o4⟩)
 obtain⟨kvs,y7,y8,rfl,kp,hq,pp,md⟩:=h;exact s_ret (aE rfl (k Lm kvs H' (kp.up (by omega)) hLm ⟨md.h,QJ md.l (by omega),md.ok,md.nd⟩))
end
def Bm (r:Rg):Prop:=∀t,dF r.ws t->∃a∈r.arcs,a.two=t
structure RgX (r:Rg):Prop where
 low:∀n∈r.ws,NmL n
 i4:r.ins.length<=4
 o1:1<=r.outs.length
def t7:Sp:=λvs H Q _=>∃(D:Dk),vs=[.ref D.d]/\D.At H/\D.n<40000 /\
 ∀a li lo l as (r:Rg) H',Kp (D.more 1000) H H'->(∀b∈[a,li,lo,l],H b=none)->RgA H' a li lo l as r->RgOk r->Bm r->RgX r->Q (.ref a) H'
theorem wm (st:StOk n z) (hc:c=48\/c=49):StOk (n+1) (z++⟨#[c]⟩):=by
 have e:(z++(⟨#[c]⟩:Str)).cps=z.cps++#[c]:=rfl;refine⟨by rw[e,Array.size_append,st.len];rfl,λd hd=>?_⟩;rw[e,Array.toList_append]at hd;rcases Qz.mp hd with h|h
 ·exact st.signs d h
 have:d=c:=by simpa using h
 rw[this];exact hc
theorem iP {α β:Type} {F:α->β->Prop}:∀{xs us:List α} {ys ws:List β},Paired F xs ys->Paired F us ws->Paired F (xs++us) (ys++ws)
 | _,_,_,_,.nil,h=>h
 | _,_,_,_,.cons r t,h=>.cons r (iP t h)
theorem jL (S:aj (upd H a o) H'):aj H (back H a H'):=λb u e=>by
 by_cases c:b=a
 ·rw[c,fB,<-c];exact e
 rw[bJ c];exact S b u (by rw[ah c];exact e)
section
variable {α:Type} {K:PySem.W.Frag} {H1:Hp} {D:Addr} {σ0:St} {g:TG} {te:TE} {tt:L2.TT} {QD:Hp->Prop}
theorem xA {a:Addr} {o:Obj} {kvs:List (aB × V)} (c:aB × V->Bool) (R:Hp->V->aB × V->Prop) (hD:H1 D=none) (e:H1 a=some (.frz o (.dT kvs))) (few:kvs.length<=100000) (mono:∀H H' v x,bh H H'->R H v x->R H' v x)
  (hs:∀kv b H,kv∈kvs->bS H kv.1 b->aj H1 H->∀(G:V->Hp->Prop) (N:Hp->Prop),(c kv=true->∀u H2,aj H H2->R H2 u kv->G u H2)->(c kv=false->∀H2,aj H H2->N H2)->g (.ref b) σ0 H λσ2 H2=>wk σ0 σ2/\tt σ2 H2 λb H3=>if b=true then te σ2 H3 G else N H3)
  (hd:∀H ys,aj H1 H->H D=some (.lst ys)->Paired (R H) ys (kvs.filter c)->QD H) :
  ∃W:Nat->Nat->Hp->List V->Prop,(∃m,W 0 m (upd H1 D (.lst [])) [])/\∀i m H ys,W i m H ys->H D=some (.lst ys)/\(((wa a o kvs).stop i H/\QD H)\/((wa a o kvs).go i H/\∀x H',(wa a o kvs).yld i H x H'->g x σ0 H' λσ2 H2=>wk σ0 σ2/\tt σ2 H2 λb H3 =>
   if b=true then te σ2 H3 λv H4=>H4 D=some (.lst ys)/\ys.length<sizeLine/\∃m',m'<m/\W (i+1) m' (upd H4 D (.lst (ys++[v]))) (ys++[v]) else ∃m',m'<m/\W (i+1) m' H3 ys)):=by
 refine cm kvs c R hD few mono (λi H S hi=>⟨S _ _ e,hi⟩) (λH S=>⟨S _ _ e,Qg _⟩) (λi x H v H' ex S y=>?_) hd;obtain⟨e',k,u,b,hk,ev,tb⟩:=y;subst e' ev;rw[ex]at hk;cases hk;exact hs _ b _ (Qk ex) tb S
end
theorem zm {bs:B3} (h:KsA H bs ks) (hk:∀k∈ks,∃p,k=tkR p):∃ps:List Pr,ks=ps.map tkR/\Paired (PrA H) (bs.map V.ref) ps:=by
 induction h with
 | nil=>exact⟨[],rfl,.nil⟩
 | @cons b k _ _ r _ ih =>
 obtain⟨ts,e,p⟩:=ih λk hk'=>hk k (Qn _ hk');obtain⟨t,rfl⟩:=hk k (by simp);exact⟨t::ts,by rw[e];rfl,.cons (PrA.of r) p⟩
theorem MkD.keys {ws:List Str} (d:MkD H a ws kvs n):∀k∈kvs.map (·.1),∃p,k=tkR p:=λk hk=>by
 obtain⟨kv,h,rfl⟩:=Qm.mp hk;obtain⟨p,e,_⟩:=d.ok kv h;exact⟨p,e⟩
theorem MkD.shp {ws:List Str} (d:MkD H a ws kvs n):v_ false (kvs.map (·.1)):=by
 refine⟨λx hx y hy=>?_,λx hx=>?_⟩
 ·obtain⟨p,rfl⟩:=d.keys x hx;obtain⟨q,rfl⟩:=d.keys y hy;rfl
 obtain⟨p,rfl⟩:=d.keys x hx;exact⟨_,_,rfl⟩
theorem MkD.sort {K:PySem.W.Frag} {ws:List Str} (d:MkD H a ws kvs n) (hn:n<64) (q:∀p vs (ps:List Pr),H p=none->Paired (PrA H) vs ps->(ps.map tkR).Perm (kvs.map (·.1))->(ps.map tkR).Pairwise leF->Q (.ref p) (upd H p (.lst vs))):ut K [.ref a] H Q:=by
 refine⟨a,_,false,rfl,.inr ⟨kvs,.inl d.h,rfl⟩,d.shp,by rw[Qb];exact XY d.l hn,λp bs ks hp ka pm so=>?_⟩;obtain⟨ps,rfl,pp⟩:=zm ka λk hk=>d.keys k (pm.mem_iff.mp hk);exact q p _ ps hp pp pm so
structure RI (D:Dk) (H H':Hp) (nl tl ol Lm:Addr) (ws:List Str) (tv:List V) (tts:List Tu) (ov:List V) (ots:List Tu) (kvs:List (aB × V)) (n c:Nat):Prop where
 kp:Kp (D.more c) H H'
 nl:H' nl=some (.lst (ws.map V.str))
 tl:H' tl=some (.lst tv)
 tp:Paired (TuA H') tv tts
 ol:H' ol=some (.lst ov)
 op:Paired (TuA H') ov ots
 md:MkD H' Lm ws kvs n
section
variable {D:Dk} {H H' H2:Hp} {nl tl ol Lm:Addr} {ws:List Str} {tv ov:List V} {tts ots:List Tu} {kvs:List (aB × V)} {n c:Nat}
theorem RI.draw {c':Nat} (i:RI D H H' nl tl ol Lm ws tv tts ov ots kvs n c) (no:∀b∈[nl,tl,ol,Lm],¬D.own b) (old:∀b o,H' b=some o->¬D.own b->H2 b=some o) (k:Kp (D.more c') H H2):RI D H H2 nl tl ol Lm ws tv tts ov ots kvs n c' :=
 have kt:=i.kp.kt old
 ⟨k,old _ _ i.nl (no _ (by simp)),old _ _ i.tl (no _ (by simp)),ag (λ_ _ h=>h.kt kt) i.tp,old _ _ i.ol (no _ (by simp)),ag (λ_ _ h=>h.kt kt) i.op,i.md.same λo e=>old _ _ e (no _ (by simp))⟩
theorem RI.same (i:RI D H H' nl tl ol Lm ws tv tts ov ots kvs n c) (S:aj H' H2):RI D H H2 nl tl ol Lm ws tv tts ov ots kvs n c :=
 ⟨i.kp.trans (Kp.of i.kp.dk S),S _ _ i.nl,S _ _ i.tl,ag (λ_ _ h=>h.kt (aj.tups S)) i.tp,S _ _ i.ol,ag (λ_ _ h=>h.kt (aj.tups S)) i.op,i.md.same λo e=>S _ _ e⟩
theorem RI.up {n' c':Nat} (i:RI D H H' nl tl ol Lm ws tv tts ov ots kvs n c) (hn:n<=n') (hc:c<=c'):RI D H H' nl tl ol Lm ws tv tts ov ots kvs n' c' :=
 ⟨i.kp.up hc,i.nl,i.tl,i.tp,i.ol,i.op,i.md.h,QJ i.md.l hn,i.md.ok,i.md.nd⟩
theorem RI.set {kvs':List (aB × V)} {n':Nat} (i:RI D H H' nl tl ol Lm ws tv tts ov ots kvs n c) (DA:D.At H) (hm:H Lm=none) (d:MkD (upd H' Lm (.dT kvs')) Lm ws kvs' n'):RI D H (upd H' Lm (.dT kvs')) nl tl ol Lm ws tv tts ov ots kvs' n' c:=by
 have kt:bh H' (upd H' Lm (.dT kvs')):=eG i.md.h;have ne:∀{b xs},H' b=some (.lst xs)->b≠Lm:=λe z=>by have:=i.md.h;rw[<-z,e]at this;cases this
 exact⟨Kp.fresh (DA.le (QQ _ _)) hm i.kp,by rw[ah (ne i.nl)];exact i.nl,by rw[ah (ne i.tl)];exact i.tl,ag (λ_ _ h=>h.kt kt) i.tp,by rw[ah (ne i.ol)];exact i.ol,ag (λ_ _ h=>h.kt kt) i.op,d⟩
end
def pF (kvs:List (aB × V)) (p:Pr):Int:=match aU kvs (tkR p) with
 | some (.int m)=>m
 | _=>0
def wz (z:Str):Str:=if z = "+" then "-" else "+"
theorem za {ws:List Str} {t:Tu} (h:dF ws t):dF ws (t.1,wz t.2)/\((t.1,wz t.2):Tu)≠t:=by
 unfold wz;rcases h.2 with e|e
 ·rw[Qs e];exact⟨⟨h.1,.inr rfl⟩,λz=>by have z:("-" : Str)=t.2:=congrArg Prod.snd z;rw[e]at z;exact absurd z (by decide +kernel)⟩
 rw[Qo (by rw[e];decide +kernel)];exact⟨⟨h.1,.inl rfl⟩,λz=>by have z:("+" : Str)=t.2:=congrArg Prod.snd z;rw[e]at z;exact absurd z (by decide +kernel)⟩
theorem zb (h:z = "+" \/ z = "-"):∃c,atI ("+-" : Str).cps.toList (if decide (V.str z=V.str "+")=true then 1 else 0)=some c/\(⟨#[c]⟩:Str)=wz z:=by
 rcases h with rfl|rfl
 ·exact⟨45,by decide +kernel,by decide +kernel⟩
 exact⟨43,by decide +kernel,by decide +kernel⟩
theorem Bi (x:Int):∃c,atI ("01" : Str).cps.toList (x % 2)=some c/\(c=48\/c=49):=by
 have:x % 2=0\/x % 2=1:=by omega
 rcases this with e|e
 ·rw[e];exact⟨48,by decide +kernel,.inl rfl⟩
 rw[e];exact⟨49,by decide +kernel,.inr rfl⟩
theorem m5 {ws:List Str} {p:Pr} (d:MkD H a ws kvs n) (h:tkR p∈kvs.map (·.1)):PrOk ws p/\aU kvs (tkR p)=some (.int (pF kvs p))/\(pF kvs p=0\/pF kvs p=1):=by
 obtain⟨ok,m,e,hm⟩:=d.val h;have:pF kvs p=m:=by unfold pF;rw[e]
 rw[this];exact⟨ok,e,hm⟩
def oq (kvs:List (aB × V)) (p:Pr):Arc:=⟨p.1,p.2,pF kvs p⟩
def d_ (ws:List Str):List Tu:=(ws.map λn=>((n, "+"):Tu))++(ws.map λn=>((n, "-"):Tu))
theorem dY {ws:List Str} {t:Tu}:t∈d_ ws↔dF ws t:=by
 unfold d_ dF;rw[Qz,Qm,Qm]
 constructor
 ·rintro(⟨n,h,rfl⟩|⟨n,h,rfl⟩)
  ·exact⟨h,.inl rfl⟩
  exact⟨h,.inr rfl⟩
 rintro⟨h,e|e⟩
 ·exact .inl ⟨t.1,h,Prod.ext rfl e.symm⟩
 exact .inr ⟨t.1,h,Prod.ext rfl e.symm⟩
theorem xr {K:PySem.W.Frag} {ws:List Str} (hv:U[i]?=some (some (.ref nl))) (qn:H nl=some (.lst (ws.map V.str))) (w5:ws.length<=1000)
  (q:∀tl tv H',aj H H'->H tl=none->H' tl=some (.lst tv)->Paired (TuA H') tv (d_ ws)->Q (.ref tl) H') :
  tOp yU (iy (nK K (fO i)) (d5 0) f6 (tN (fF (fO 0) (fF (tC (V.str "+")) lY))) (bI ["name"] [])) (iy (nK K (fO i)) (d5 0) f6 (tN (fF (fO 0) (fF (tC (V.str "-")) lY))) (bI ["name"] [])) U H Q:=by
 have one:∀{z:Str} {H:Hp} {U:St} {Q:VK},U[i]?=some (some (.ref nl))->H nl=some (.lst (ws.map V.str))->(∀L y H',aj H H'->H' L=some (.lst y)->Paired (λv n=>TuA H' v (n,z)) y ws->Q (.ref L) H')->iy (nK K (fO i)) (d5 0) f6 (tN (fF (fO 0) (fF (tC (V.str z)) lY))) (bI ["name"] []) U H Q:=λ{z H U Q} hv qn q=>by
  refine bC (s_list (aE hv ⟨nl,rfl,⟨_,SqL.of qn⟩,λL1 hL1=>?_⟩));refine eK (I:=λv n=>v=V.str n) (λ_=>true) (λH v (n:Str)=>TuA H v (n,z)) hL1 qn (eZ ws) (by omega) (λH H' v x k h=>h.kt k) (λv x H' ev mx S' G N hG _=>?_) (λH6 y1 S6 hy1 py1=>?_)
  ·subst ev;refine az ⟨trivial,i_yes (cu ?_)⟩;refine i_tup (aY (aE rfl (aY (i_c (aZ ⟨by simp[sizeLine],λp1 h1=>?_⟩)))));exact hG rfl _ _ (aw h1) ⟨p1,rfl,af⟩
  rw[cN]at py1;exact q L1 y1 H6 S6 hy1 py1
 refine i_op (one hv qn λL1 y1 H6 S6 hy1 py1=>one hv (S6 _ _ qn) λL2 y2 H7 S7 hy2 py2=>?_);have l1:=av py1;have l2:=av py2;have big:100000<sizeLine:=by decide
 refine gv (S7 _ _ hy1) hy2 (by omega) λtl htl=>?_;have S8:=aw (o:=.lst (y1++y2)) htl;exact q tl _ _ ((S6.trans S7).trans S8) (bP (S6.trans S7) htl) af (iP (bV (f:=λn:Str=>((n, "+"):Tu)) (ag (λ_ _ h=>h.kt (aj.tups (S7.trans S8))) py1)) (bV (f:=λn:Str=>((n, "-"):Tu)) (ag (λ_ _ h=>h.kt (aj.tups S8)) py2)))
theorem tz (ws:List Str):(d_ ws).length=2*ws.length:=by unfold d_;rw[Qh,Qb,Qb];omega
open Classical in
open Classical in
open Classical in
theorem oC {α β:Type}:∀(xs:List α) (ys:List β),xs.zip ys=(ys.zip xs).map λq=>(q.2,q.1)
 | [],ys=>by simp
 | _::_,[]=>by simp
 | x::xs,y::ys=>by rw[List.zip_cons_cons,List.zip_cons_cons,Qw,oC xs ys]
def no0 (t:Tu) (q:Int × Arc):Bool:=decide (q.2.two=t)&&decide (q.1=0)
def b01 (b:Bool):Int:=if b=true then 1 else 0
def mkL (t:Tu) (q:Int × Arc):Int:=q.1+b01 (decide (q.2.one=t))-b01 (decide (q.2.two=t))
theorem zi {ws:List Str} (h:∀a∈as,ArOk ws a) (t:Tu):(ms.zip as).map (mkL t)=dH as ms t:=by
 unfold dH;rw[oC as ms,Q3];refine XS λq hq=>?_;have ne:=(h q.2 (List.of_mem_zip hq).2).ne;show mkL t q=mkB q.2 q.1 t;unfold mkL mkB b01;by_cases c1:q.2.one=t
 ·have c2:¬q.2.two=t:=λz=>ne (c1.trans z.symm);simp[c1,c2]
 by_cases c2:q.2.two=t
 ·simp[c1,c2]
 simp[c1,c2]
theorem A1 (b:Bool):∃d,atI ("01" : Str).cps.toList (if b=true then 1 else 0)=some d/\V.str ⟨#[d]⟩=sg b:=by
 cases b
 ·exact⟨48,by decide +kernel,by decide +kernel⟩
 exact⟨49,by decide +kernel,by decide +kernel⟩
theorem Af (a b:Bool):decide (sg a=sg b)=decide (a=b):=by
 cases a <;> cases b <;> decide +kernel
theorem wq (a b:Bool):uk (sg a) (sg b)=true:=by cases a <;> cases b <;> rfl
def FdA (Os:B3) (H:Hp) (v:V) (f:Pl × List Tu):Prop:=∃b mb wb,v=.ref b/\H b=some (.tup [.ref mb,.str f.1.2,.ref wb])/\mb∉Os/\wb∉Os/\H mb=some (.lst (f.1.1.map V.int))/\jC H wb f.2
variable {f:Pl × List Tu} {Os nas:B3}
theorem FdA.keep (kt:bh H H') (kb:∀b o,H b=some o->b∉Os->H' b=some o) (h:FdA Os H v f):FdA Os H' v f:=by
 obtain⟨b,mb,wb,e,q,n1,n2,q1,q2⟩:=h;exact⟨b,mb,wb,e,kt _ _ q,n1,n2,kb _ _ q1 n1,q2.keep kt λvs e=>kb _ _ e n2⟩
theorem FdA.more {v:V} (hN:H N=none) (h:FdA Os H v f):FdA (N::Os) H v f:=by
 obtain⟨b,mb,wb,e,q,n1,n2,q1,vs,q2,q3⟩:=h;exact⟨b,mb,wb,e,q,λz=>(Qj.mp z).elim (λz=>by rw[z,hN]at q1;cases q1) n1,λz=>(Qj.mp z).elim (λz=>by rw[z,hN]at q2;cases q2) n2,q1,vs,q2,q3⟩
theorem FdA.less (h:FdA (N::Os) H v f):FdA Os H v f:=by
 obtain⟨b,mb,wb,e,q,n1,n2,q1,q2⟩:=h;exact⟨b,mb,wb,e,q,λz=>n1 (Qn _ z),λz=>n2 (Qn _ z),q1,q2⟩
structure LU (H0 H:Hp) (Lf Lo:Addr) (Os:B3) (x:Sx) (fv:List V) (nas:B3) (nds:List Nd):Prop where
 s:aj H0 H
 f:H Lf=some (.lst fv)
 fp:Paired (FdA Os H) fv (x.ps.zip x.ws)
 o:H Lo=some (.lst (nas.map V.ref))
 op:Paired (lR H) nas nds
 ap:∀b∈nas,b∉Os
 nd:nas.Nodup
 nw:∀b∈nas,H0 b=none
 iF:Lf∈Os
 iO:Lo∈Os
 ne:Lf≠Lo
 new:∀b∈Os,H0 b=none
 li:∀b∈Os,∃xs,H b=some (.lst xs)
section
variable {H0 H H':Hp} {Lf Lo:Addr} {Os:B3} {x:Sx} {fv:List V} {nas:B3} {nds:List Nd}
theorem LU.same (u:LU H0 H Lf Lo Os x fv nas nds) (S:aj H H'):LU H0 H' Lf Lo Os x fv nas nds :=
 ⟨u.s.trans S,S _ _ u.f,ag (λ_ _ h=>h.keep (aj.tups S) λb o e _=>S b o e) u.fp,S _ _ u.o,ag (λ_ _ h=>h.keep (aj.tups S) λvs e=>S _ _ e) u.op,u.ap,u.nd,u.nw,u.iF,u.iO,u.ne,u.new,λb hb=>let ⟨xs,e⟩:=u.li b hb;⟨xs,S _ _ e⟩⟩
theorem LU.at {L:Addr} {xs:List V} (u:LU H0 H Lf Lo Os x fv nas nds) (hL:L∈Os):bh H (upd H L (.lst xs))/\(∀b o,H b=some o->b∉Os->upd H L (.lst xs) b=some o)/\aj H0 (upd H L (.lst xs))/\∀b∈Os,∃ys,upd H L (.lst xs) b=some (.lst ys):=by
 obtain⟨zs,e⟩:=u.li L hL;refine⟨cM e,λb o e n=>by rw[ah (λz:b=L=>n (by rw[z];exact hL))];exact e,bu u.s (u.new L hL),λb hb=>?_⟩;by_cases c:b=L
 ·rw[c];exact⟨_,af⟩
 rw[ah c];exact u.li b hb
theorem LU.put {N:Addr} {xs:List V} (u:LU H0 H Lf Lo Os x fv nas nds) (hN:N∈Os) (n1:N≠Lf) (n2:N≠Lo):LU H0 (upd H N (.lst xs)) Lf Lo Os x fv nas nds:=by
 obtain⟨kt,kb,s,li⟩:=u.at (xs:=xs) hN;exact⟨s,by rw[ah n1.symm];exact u.f,ag (λ_ _ h=>h.keep kt kb) u.fp,by rw[ah n2.symm];exact u.o,bH u.op λb w hb h=>h.keep kt λvs e=>kb _ _ e (u.ap b hb),u.ap,u.nd,u.nw,u.iF,u.iO,u.ne,u.new,li⟩
theorem LU.found {v:V} {p:Pl} {w:List Tu} (u:LU H0 H Lf Lo Os x fv nas nds) (hl:x.ws.length=x.ps.length) (f:FdA Os H v (p,w)):LU H0 (upd H Lf (.lst (fv++[v]))) Lf Lo Os ⟨x.ps++[p],x.ws++[w]⟩ (fv++[v]) nas nds:=by
 obtain⟨kt,kb,s,li⟩:=u.at (xs:=fv++[v]) u.iF;refine⟨s,af,?_,by rw[ah u.ne.symm];exact u.o,bH u.op λb w hb h=>h.keep kt λvs e=>kb _ _ e (u.ap b hb),u.ap,u.nd,u.nw,u.iF,u.iO,u.ne,u.new,li⟩;show Paired _ _ ((x.ps++[p]).zip (x.ws++[w]));rw[List.zip_append hl.symm];exact ba (ag (λ_ _ h=>h.keep kt kb) u.fp) (f.keep kt kb)
theorem LU.node {N:Addr} {nd:Nd} (u:LU H0 H Lf Lo (N::Os) x fv nas nds) (iF:Lf∈Os) (iO:Lo∈Os) (nN:N∉Os) (at_:lR H N nd) (no:N∉nas):LU H0 (upd H Lo (.lst ((nas++[N]).map V.ref))) Lf Lo Os x fv (nas++[N]) (nds++[nd]):=by
 obtain⟨kt,kb,s,li⟩:=u.at (xs:=(nas++[N]).map V.ref) u.iO;have hN:N≠Lo:=λz=>nN (z▸iO);refine⟨s,by rw[ah u.ne];exact u.f,ag (λ_ _ h=>(h.keep kt kb).less) u.fp,af,ba (bH u.op λb w hb h=>h.keep kt λvs e=>kb _ _ e (u.ap b hb)) (at_.keep kt λvs e=>by rw[ah hN];exact e),λb hb=>?_,?_,λb hb=>?_,iF,iO,u.ne,λb hb=>u.new b (Qn _ hb),λb hb=>li b (Qn _ hb)⟩
 ·rcases Qz.mp hb with h|h
  ·exact λz=>u.ap b h (Qn _ z)
  rw[Qy.mp h];exact nN
 ·rw[X4];refine⟨u.nd,by simp,λa ha b hb=>?_⟩;rw[Qy.mp hb];exact λz=>no (z▸ha)
 rcases Qz.mp hb with h|h
 ·exact u.nw b h
 rw[Qy.mp h];exact u.new N (by simp)
theorem LU.apart {N:Addr} {xs:List V} (u:LU H0 H Lf Lo Os x fv nas nds) (hN:H N=none):LU H0 (upd H N (.lst xs)) Lf Lo (N::Os) x fv nas nds:=by
 have S:=aw (o:=.lst xs) hN;have u2:=u.same S;refine⟨u2.s,u2.f,ag (λ_ _ h=>(h.more hN).keep (aj.tups S) λb o e _=>S b o e) u.fp,u2.o,u2.op,λb hb z=>?_,u.nd,u.nw,Qn _ u.iF,Qn _ u.iO,u.ne,λb hb=>?_,λb hb=>?_⟩
 ·rcases Qj.mp z with z|z
  ·obtain⟨y,hy,vs,e,_⟩:=dX u.op hb;rw[z,hN]at e;cases e
  exact u.ap b hb z
 ·rcases Qj.mp hb with z|z
  ·rw[z];exact bP u.s hN
  exact u.new b z
 rcases Qj.mp hb with z|z
 ·rw[z];exact⟨_,af⟩
 exact u2.li b z
end
structure LV (Hb H:Hp) (Lf Lo N mb wb:Addr) (r:Rg) (x:Sx) (fv:List V) (nas:B3) (nds:List Nd) (p:Pl) (way:List Tu) (ndv:List V) (nd:Nd):Prop where
 u:LU Hb H Lf Lo [N,Lf,Lo] x fv nas nds
 xo:x.Ok r
 hN:H N=some (.lst ndv)
 pn:Paired (SgA H) ndv nd
 gp:x.ps[nds.length]?=some p
 gw:x.ws[nds.length]?=some way
 hm:H mb=some (.lst (p.1.map V.int))
 nm:mb∉[N,Lf,Lo]
 hw:jC H wb way
 nw:wb∉[N,Lf,Lo]
section
variable {Hb H H':Hp} {Lf Lo N mb wb:Addr} {r:Rg} {x:Sx} {fv:List V} {nas:B3} {nds:List Nd} {p:Pl} {way:List Tu} {ndv:List V} {nd:Nd}
theorem LV.put {v:V} {e:Str × Nat} (i:LV Hb H Lf Lo N mb wb r x fv nas nds p way ndv nd) (n1:N≠Lf) (n2:N≠Lo) (h:SgA H v e):LV Hb (upd H N (.lst (ndv++[v]))) Lf Lo N mb wb r x fv nas nds p way (ndv++[v]) (nd++[e]):=by
 obtain⟨kt,kb,_⟩:=i.u.at (L:=N) (xs:=ndv++[v]) (by simp);exact⟨i.u.put (by simp) n1 n2,i.xo,af,ba (ag (λ_ _ h=>h.kt kt) i.pn) (h.kt kt),i.gp,i.gw,kb _ _ i.hm i.nm,i.nm,i.hw.keep kt λvs e=>kb _ _ e i.nw,i.nw⟩
theorem LV.found {v:V} {p':Pl} {w':List Tu} (i:LV Hb H Lf Lo N mb wb r x fv nas nds p way ndv nd) (n1:N≠Lf) (xo:Sx.Ok r ⟨x.ps++[p'],x.ws++[w']⟩) (f:FdA [N,Lf,Lo] H v (p',w')):LV Hb (upd H Lf (.lst (fv++[v]))) Lf Lo N mb wb r ⟨x.ps++[p'],x.ws++[w']⟩ (fv++[v]) nas nds p way ndv nd:=by
 obtain⟨kt,kb,_⟩:=i.u.at (L:=Lf) (xs:=fv++[v]) i.u.iF;refine⟨i.u.found i.xo.1 f,xo,by rw[ah n1];exact i.hN,ag (λ_ _ h=>h.kt kt) i.pn,?_,?_,kb _ _ i.hm i.nm,i.nm,i.hw.keep kt λvs e=>kb _ _ e i.nw,i.nw⟩
 ·rw[QC (Qd.mp i.gp).1];exact i.gp
 rw[QC (Qd.mp i.gw).1];exact i.gw
end
def bF (H:Hp) (a:Addr) (sts:List (V × Key)):Prop:=∃vs,H a=some (.lst vs)/\Paired (λv (s:V × Key)=>∃b,v=.ref b/\H b=some (.tup [s.1,kV s.2])) vs sts
theorem bF.same {H':Hp} {sts:List (V × Key)} (S:aj H H') (h:bF H a sts):bF H' a sts:=by
 obtain⟨vs,h1,h2⟩:=h;exact⟨vs,S _ _ h1,ag (λv s ⟨b,e,q⟩=>⟨b,e,S _ _ q⟩) h2⟩
def xN (F W N:Addr) (H H':Hp):Prop:=∀b o,H b=some o->b≠F->b≠W->b≠N->H' b=some o
def fdK (xs:List Key) (as:B3):List (Key × V):=(xs.zip as).map λp=>(p.1,V.ref p.2)
def knK (xs:List Key):List (Key × V):=xs.map λx=>(x,V.bl true)
variable {xs ys:List Key}
theorem rq {as:B3} (h:as.length<=xs.length):(fdK xs as).length=as.length:=by
 unfold fdK;rw[Qb,List.length_zip];omega
theorem nR (xs:List Key) (as:B3):(fdK xs as).map (·.1)=xs.take as.length:=by
 unfold fdK;rw[Q3];show (xs.zip as).map (λp=>p.1)=_
 induction xs generalizing as with
 | nil=>simp
 | cons x xs ih =>
 cases as with
 | nil=>simp
 | cons a as=>simp[ih]
theorem vQ {as:B3} {x:Key} (h:xs[as.length]?=some x):fdK xs (as++[a])=fdK xs as++[(x,V.ref a)]:=by
 unfold fdK
 induction xs generalizing as with
 | nil=>simp at h
 | cons y xs ih =>
 cases as with
 | nil=>simp at h;subst h;simp
 | cons b as=>simp at h;simp[ih h]
theorem vR {as:B3} (h:as.length<=xs.length) (p:xs <+: ys):fdK ys as=fdK xs as:=by
 obtain⟨t,rfl⟩:=p;unfold fdK
 induction xs generalizing as with
 | nil =>
  have:as=[]:=by simpa using h
  subst this;simp
 | cons y xs ih =>
 cases as with
 | nil=>simp
 | cons b as=>simp at h;simpa using ih h
theorem jF {kvs:List (Key × V)} {k:Key}:aU kvs k=none↔k∉kvs.map (·.1):=by
 refine⟨eS,λh=>?_⟩
 cases e:aU kvs k with
 | none=>rfl
 | some v=>exact absurd (qj e) h
theorem rg {k:Key}:aU (knK xs) k=none↔k∉xs:=by
 rw[jF];unfold knK;rw[Q3];show k∉xs.map (λx=>x)↔_;rw[List.map_id']
def nxK (steps:Key->List (V × Key)) (x:Key):List Key:=(steps x).map (·.2)
def kK (P:Program) (w:World) (K:PySem.W.Frag) (mg:B2) (base:Heap) (k:Nat):Sp:=λvs H Q _=>∃(start:Key) (f:Addr) (l:Lm) (cl:List (Str × Addr)) (c:Addr) (r:V->Hp->VK->Prop) (steps:Key->List (V × Key)) (B:Nat),
 vs=[kV start,.ref f]/\H f=some (gW f l cl c)/\Calls P w K mg base k f r/\B<=100000 /\
 (∀x H1 (Q1:VK),Bf.Reach (nxK steps) start x->aj H H1->(∀a H2,aj H1 H2->bF H2 a (steps x)->Q1 (.ref a) H2)->r (kV x) H1 Q1) /\
 (∀xs:List Key,xs.Nodup->(∀x∈xs,Bf.Reach (nxK steps) start x)->xs.length<=B) /\
 ∀(F:Addr) (as:B3) (n:Nat) (H':Hp),aj H H'->H F=none->(Bf.bfs (nxK steps) start n).length=n->as.length=n->H' F=some (.dK (fdK (Bf.bfs (nxK steps) start n) as)) ->
  (∀(i:Nat) x a,(Bf.bfs (nxK steps) start n)[i]?=some x->as[i]?=some a->bF H' a (steps x))->Q (.ref F) H'
theorem xq {P:Program} {w:World} {K:PySem.W.Frag} {mg:B2} {base:Heap} {k:Nat} {te:TE} {f c:Addr} {l:Lm} {cl:List (Str × Addr)} {r:V->Hp->VK->Prop} (hi:U[i]?=some (some (.ref f))) (C:Calls P w K mg base k f r) (hf:H f=some (gW f l cl c))
  (q:te U H λv H1=>H1 f=some (gW f l cl c)/\r v H1 Q):tS P w K mg base k i te U H Q:=⟨f,l,cl,c,r,hi,C,hf,q⟩
section
theorem jw:FnScope ["start", "steps_of", "found", "waiting", "known", "at", "here", "steps", "step"] ["start", "steps_of"] (au (top 14)):=by fin2
theorem uY {kl:Nat} {f:Addr} {fd:FuncData} (Fu:Fun K "found_from" "found_from" (top 14) f fd) (T:Txt K mg TT):FnOk P w K mg base CX0 (kl+1) f fd ["start", "steps_of"] (kK P w K mg base kl):=by
 have S:=jw;refine Fu.ok S (by room) (λcdv A outer s H vs Q E hr h=>?_);obtain⟨start,fl,l,cl,c,r,steps,B,rfl,hfl,hC,hB,hst,hfew,k⟩:=h;have hu:=cV hr;refine'⟨?_,?bb,?_⟩
 case bb =>
  walk_at "b";exact aG 2 S.nd uJ;exact aG 3 S.nd (pe_lst (aa (pv 0) ac ad));exact aG 4 S.nd (qT (mL (pv 0) cq qR) rfl rfl (by simp) (by decide));exact aG 5 S.nd ae;refine' ge PassesOwn.never ?_ ?_;rotate_left 2;exact(aC jU (pv 5) (aq ay (by rfl) T.n_len QL (aa (pv 3) ac ad)) (aF _));walk_at "p";exact aG 6 S.nd (am aX (pv 3) (pv 5));exact aG 7 S.nd (uM (k:=kl) (i:=1) (hr.mono (by omega)) yf (pv 1) (pv 6));exact(eB hu (pv 2) (pv 6) (pv 7) rfl);walk_at "f";exact(bi (pv 7));exact(bB 8 S.nd);walk_at "p";exact(uw (jS hu (am aA (pv 8) ae) (pv 4)));exact(eB hu (pv 4) (am aA (pv 8) ae) cq rfl);exact(bZ (bO QE Q0 Q2 bt (pv 3) (aa (am aA (pv 8) ae) ac)));exact(yV (i:=5) S.nd rfl (by z_go) ae zx);exact(aD (pv 2))
 x_go;refine s_seq (s_asg ?_);intro F hF;refine az ?_;ctx_has H F H1 S1 q1 ak hF;lk;refine⟨by simp[sizeLine],λW hW=>?_⟩;ctx_has H1 W H2 S2 q2 ak hW;lk;refine λN hN=>?_;refine⟨_,rfl,?_⟩;refine⟨af,[(start,.bl true)],rfl,by simp,?_⟩;rw[qk];refine az ?_;ctx_has H2 N H3 S3 q3 ak hN;lk;have S03:aj H H3:=S1.trans (S2.trans S3);have FW:F≠W:=ao q1 hW;have FN:F≠N:=ao (S2 _ _ q1) hN;have WN:W≠N:=ao q2 hN
 have W0:H W=none:=by
  cases e:H W with
  | none=>rfl
  | some o=>rw[S1 _ _ e]at hW;cases hW
 have N0:H N=none:=by
  cases e:H N with
  | none=>rfl
  | some o=>rw[(S1.trans S2) _ _ e]at hN;cases hN
 have off:∀{Ha Hb:Hp},aj H Ha->xN F W N Ha Hb->aj H Hb:=λsa o b u e=>o b u (sa b u e) (ao e hF) (ao e W0) (ao e N0);let nx:=nxK steps;let bf:=Bf.bfs nx start;have reach:∀n x,x∈bf n->Bf.Reach nx start x:=λn x h=>Bf.dj n x h;have fewB:∀n,(bf n).length<=B:=λn=>hfew _ (Bf.dq n) (reach n);let I13:IvF:=λm U H'=>∃(n:Nat) (as:B3) (x6 x7 x8:Option V),U=[some (kV start),some (.ref fl),some (.ref F),some (.ref W),some (.ref N),some (.int (n:Int)),x6,x7,x8]/\m=B+1-n/\n<=(bf n).length/\aj H H'/\H' F=some (.dK (fdK (bf n) as))/\as.length=n/\H' W=some (.lst ((bf n).map kV))/\H' N=some (.dK (knK (bf n)))/\∀(i:Nat) x a,(bf n)[i]?=some x->as[i]?=some a->bF H' a (steps x)
 refine⟨I13,
  ⟨_,0,[],none,none,none,rfl,rfl,QR _,S03,S3 _ _ (S2 _ _ q1),rfl,S3 _ _ q2,q3,λi x a _ e=>nomatch e⟩,?_⟩
 rintro m U H' ⟨n,as,x6,x7,x8,rfl,rfl,hn,SH,hF',las,hW',hN',hsts⟩;lk;rw[Qb];by_cases cn:n<(bf n).length
 case neg =>
  refine ifF (Qu (by omega)) ?_;lk;have e:(bf n).length=n:=by omega
  exact k F as n H' SH hF e las hF' hsts
 refine ifT (Qv (by omega)) ?_;let I14:IvJ:=λσ' H''=>∃(as:B3) (x6 x7 x8:Option V),σ'=[some (kV start),some (.ref fl),some (.ref F),some (.ref W),some (.ref N),some (.int ((n+1:Nat):Int)),x6,x7,x8]/\n+1<=(bf (n+1)).length/\aj H H''/\H'' F=some (.dK (fdK (bf (n+1)) as))/\as.length=n+1/\H'' W=some (.lst ((bf (n+1)).map kV))/\H'' N=some (.dK (knK (bf (n+1))))/\∀(i:Nat) x a,(bf (n+1))[i]?=some x->as[i]?=some a->bF H'' a (steps x);refine⟨I14,λσ' H'' h=>?_,?_⟩
 ·obtain⟨as,x6,x7,x8,e1,e2,e3,e4,e5,e6,e7,e8⟩:=h;exact⟨B+1-(n+1),by have:=fewB n;omega,n+1,as,x6,x7,x8,e1,rfl,e2,e3,e4,e5,e6,e7,e8⟩
 obtain⟨x,hx⟩:∃x,(bf n)[n]?=some x:=⟨_,Qe cn⟩;have hbs:bf (n+1)=Bf.a_ (bf n) (nx x):=Bf.d9 hx;lk;refine i_ixL (v:=kV x) (SqL.of hW') (bK (by rw[Qp,hx];rfl)) ?_;lk;refine xq rfl hC (SH _ _ hfl) (aE rfl ⟨SH _ _ hfl,hst x H' _ (reach n x (Qk hx)) SH λa H4 S4 st4=>?_⟩);lk;refine fT (aE rfl (aE rfl (aE rfl ?_)));refine⟨F,_,rfl,gD.k (k:=x) (S4 _ _ hF') (by rw[rq (by omega)];have:=fewB n;omega),?_⟩
 have pn:bv (fdK (bf n) as) x (V.ref a)=fdK (bf n) (as++[a]):=by
  rw[vQ (by rw[las];exact hx)];refine eX _ (jF.mpr ?_);rw[nR,las];intro hm;obtain⟨i,hi,e⟩:=List.mem_iff_getElem.mp hm;rw[QO]at hi;rw[List.getElem_take]at e;have e2:=(Qd.mp hx).2;have:=(List.getElem_inj (Bf.dq (nx:=nx) (s:=start) n)).mp (e.trans e2.symm);omega
 rw[pn]
 -- what the steps' list is not
 obtain⟨vs,ha,pr⟩:=id st4
 have neW:∀{Hx:Hp} {ws:List Key},Hx W=some (.lst (ws.map kV))->ws≠[]->∀{b:Addr} {sts:List (V × Key)},bF Hx b sts->b≠W:=λ{Hx ws} hw ne {b sts} ⟨us,hb,pu⟩ z=>by
  rw[z,hw]at hb;cases hb
  cases ws with
  | nil=>exact ne rfl
  | cons y ws =>
  cases pu with
  | cons h _ =>
  obtain⟨c,e,_⟩:=h;cases y <;> cases e
 have neD:∀{Hx:Hp} {D:Addr} {kvs:List (Key × V)},Hx D=some (.dK kvs)->∀{b:Addr} {sts:List (V × Key)},bF Hx b sts->b≠D:=λ{Hx D kvs} hd {b sts} ⟨us,hb,_⟩ z=>by
  rw[z,hd]at hb;cases hb
 have keepS:∀{Ha Hb:Hp} {ws:List Key} {k1 k2:List (Key × V)},Ha W=some (.lst (ws.map kV))->ws≠[]->Ha F=some (.dK k1)->Ha N=some (.dK k2)->xN F W N Ha Hb->∀{b:Addr} {sts:List (V × Key)},bF Ha b sts->bF Hb b sts:=λ{Ha Hb ws k1 k2} hw ne h1 h2 o {b sts} st=>by
  have n1:=neW hw ne st;have n2:=neD h1 st;have n3:=neD h2 st;obtain⟨us,hb,pu⟩:=st;refine⟨us,o b _ hb n2 n1 n3,ag (λv s ⟨c,e,q⟩=>⟨c,e,o c _ q (λz=>?_) (λz=>?_) λz=>?_⟩) pu⟩
  ·rw[z,h1]at q;cases q
  ·rw[z,hw]at q;cases q
  rw[z,h2]at q;cases q
 have bne:bf n≠[]:=λz=>by rw[z]at cn;simp at cn
 have hF4:=S4 _ _ hF';have hW4:=S4 _ _ hW';have hN4:=S4 _ _ hN';have off4:xN F W N H4 (upd H4 F (.dK (fdK (bf n) (as++[a])))):=λb o e h1 _ _=>by rw[ah h1];exact e
 have hF5:upd H4 F (.dK (fdK (bf n) (as++[a]))) F=some (.dK (fdK (bf n) (as++[a]))):=af;have hW5:upd H4 F (.dK (fdK (bf n) (as++[a]))) W=some (.lst ((bf n).map kV)):=by rw[ah FW.symm];exact hW4
 have hN5:upd H4 F (.dK (fdK (bf n) (as++[a]))) N=some (.dK (knK (bf n))):=by rw[ah FN.symm];exact hN4
 have st5:=keepS hW4 bne hF4 hN4 off4 st4
 have sts5:∀(i:Nat) y b,(bf n)[i]?=some y->(as++[a])[i]?=some b->bF (upd H4 F (.dK (fdK (bf n) (as++[a])))) b (steps y):=λi y b e1 e2=>by
  by_cases ci:i<as.length
  ·rw[QC ci]at e2;exact keepS hW4 bne hF4 hN4 off4 ((hsts i y b e1 e2).same S4)
  rw[QK (by omega)]at e2
  have:i=n:=by
   have:=(Qd.mp e2).1;simp at this;omega
  subst this;rw[hx]at e1;cases e1;rw[las,Nat.sub_self]at e2;cases e2;exact st5
 have SH5:aj H (upd H4 F (.dK (fdK (bf n) (as++[a])))):=off (SH.trans S4) off4;generalize upd H4 F (.dK (fdK (bf n) (as++[a])))=H5 at *;obtain⟨vs5,ha5,pr5⟩:=id st5;refine s_seq (s_for (s_list (aE rfl ⟨a,rfl,⟨_,SqL.of ha5⟩,?_⟩)));let I15:IvF:=λi σ' H'=>∃x8,σ'=[some (kV start),some (.ref fl),some (.ref F),some (.ref W),some (.ref N),some (.int (n:Int)),some (kV x),some (.ref a),x8]/\xN F W N H5 H'/\H' F=some (.dK (fdK (bf n) (as++[a])))/\H' W=some (.lst ((Bf.a_ (bf n) ((nx x).take i)).map kV))/\H' N=some (.dK (knK (Bf.a_ (bf n) ((nx x).take i))));refine cE (xs:=vs5) I15 ⟨_,rfl,λb o e _ _ _=>e,hF5,hW5,hN5⟩ (λi σ' H' _ pv=>?_) (λi v σ' H' hv pv=>?_) (λσ' H' pv=>?_)
 ·obtain⟨_,_,o,_⟩:=pv;exact SqL.of (o a _ ha5 (neD hF5 st5) (neW hW5 bne st5) (neD hN5 st5))
 ·obtain⟨x8,rfl,o,e1,e2,e3⟩:=pv;obtain⟨⟨nm,y⟩,hy,b,rfl,hb⟩:=paired_get pr5 hv;have hb':H' b=some (.tup [nm,kV y]):=o b _ hb (λz=>by rw[z,hF5]at hb;cases hb) (λz=>by rw[z,hW5]at hb;cases hb) (λz=>by rw[z,hN5]at hb;cases hb)
  have hny:(nx x)[i]?=some y:=by
   show ((steps x).map (·.2))[i]?=_;rw[Qp,hy];rfl
  have ext:Bf.a_ (bf n) ((nx x).take (i+1))=Bf.a_ (Bf.a_ (bf n) ((nx x).take i)) [y]:=by
   rw[XH,hny,Bf.jB];rfl
  have lenN:(Bf.a_ (bf n) ((nx x).take i)).length<=B:=hfew _ (Bf.eN _ _ (Bf.dq n)) λz hz=>by
   rcases(Bf.eO _ _ _).mp hz with h|h
   ·exact reach n z h
   exact .step (reach n x (Qk hx)) (List.mem_of_mem_take h)
  lk;refine nJ (i_op (aE rfl (i_c (i_ixT hb' rfl (aE rfl ?_)))));refine⟨N,_,rfl,cF.k (k:=y) e3,_,rfl,?_⟩;by_cases cy:y∈Bf.a_ (bf n) ((nx x).take i)
  ·rw[Bf.qg cy]at ext;refine ifF ?_ ?_
   ·cases e:aU (knK (Bf.a_ (bf n) ((nx x).take i))) y with
    | none=>exact absurd cy (rg.mp e)
    | some v=>rfl
   lk;refine⟨_,rfl,o,e1,?_,?_⟩
   ·rw[ext];exact e2
   rw[ext];exact e3
  rw[Bf.qf cy]at ext;have nn:=rg.mpr cy;refine ifT (by rw[nn];rfl) ?_;lk;refine fT (i_c (aE rfl (i_op (aE rfl (i_c (i_ixT hb' rfl ?_))))));refine⟨N,_,rfl,gD.k (k:=y) e3 (by unfold knK;rw[Qb];omega),?_⟩;have e2':upd H' N (.dK (bv (knK (Bf.a_ (bf n) ((nx x).take i))) y (.bl true))) W=some (.lst ((Bf.a_ (bf n) ((nx x).take i)).map kV)):=by rw[ah WN];exact e2
  have hb'':upd H' N (.dK (bv (knK (Bf.a_ (bf n) ((nx x).take i))) y (.bl true))) b=some (.tup [nm,kV y]):=by rw[ah (λz=>by rw[z,e3]at hb';cases hb')];exact hb'
  refine s_drop (i_bm (aE rfl ⟨i_tyL e2',?_⟩));refine aY (i_op (aE rfl (i_c (i_ixT hb'' rfl (aZ (eQ e2' (by rw[Qb];omega) ?_))))));refine⟨_,rfl,λc u e h1 h2 h3=>by rw[ah h2,ah h3];exact o c u e h1 h2 h3,by rw[ah FW,ah FN];exact e1,?_,?_⟩
  ·rw[af,ext,QI];rfl
  rw[ah WN.symm,af,eX _ nn,ext];unfold knK;rw[QI];rfl
 obtain⟨x8,rfl,o,e1,e2,e3⟩:=pv
 have lv:vs5.length=(nx x).length:=by
  show _=((steps x).map (·.2)).length;rw[Qb];exact av pr5
 rw[lv,QV (Qg _),<-hbs]at e2 e3;refine⟨_,rfl,?_⟩;refine i_c ⟨_,_,rfl,rfl,?_⟩;have pre:bf n <+: bf (n+1):=Bf.on n
 have l1:n+1<=(bf (n+1)).length:=by
  have:=pre.length_le;omega
 refine⟨as++[a],_,_,_,by rw[show ((n+1:Nat):Int)=(n:Int)+1 from rfl];rfl,l1,off SH5 o,?_,by rw[Qh,las];rfl,e2,e3,λi y b h1 h2=>?_⟩
 ·rw[vR (by rw[Qh,las];simp;omega) pre];exact e1
 have hi:i<n+1:=by
  have:=(Qd.mp h2).1;rw[Qh,las]at this;simpa using this
 exact keepS hW5 bne hF5 hN5 o (sts5 i y b (Bf.iL pre (by omega) h1) h2)
end
structure Sh where
 ins:List Str
 outs:List Str
 z:Str
 nodes:List (List (Str × Nat))
def Sh.ws (s:Sh):List Str:=s.ins++s.outs
def Sh.node (s:Sh) (i:Nat):List (Str × Nat):=s.nodes.getD i []
def Sh.nx (s:Sh) (i:Nat):List Nat:=(s.node i).map (·.2)
abbrev Sh.R (s:Sh):Nat->Prop:=Bf.Reach s.nx 0
structure ShOk (s:Sh):Prop where
 nd:s.ws.Nodup
 w1:1<=s.ws.length
 w11:s.ws.length<=11
 st:StOk s.ws.length s.z
 n1:1<=s.nodes.length
 n100:s.nodes.length<=100
 names:∀node∈s.nodes,∀p∈node,p.1∈s.ws
 tos:∀node∈s.nodes,∀p∈node,p.2<s.nodes.length
 few:∀node∈s.nodes,node.length<=100
def Lab (s:Sh) (lam:Nat->Str):Prop:=lam 0=s.z/\∀i,s.R i->∀p∈s.node i,lam p.2=b_ (lam i) (s.ws.idxOf p.1)
def dA (node:List (Str × Nat)):List (V × Key):=node.map λp=>(V.str p.1,Sum.inl (p.2:Int))
structure ShAt (H:Hp) (a li lo ln:Addr) (nas:B3) (s:Sh):Prop where
 ha:H a=some (.tup [.ref li,.ref lo,.str s.z,.ref ln])
 hi:H li=some (.lst (s.ins.map V.str))
 ho:H lo=some (.lst (s.outs.map V.str))
 hn:H ln=some (.lst (nas.map V.ref))
 nodes:Paired (λna node=>bF H na (dA node)) nas s.nodes
variable {s:Sh}
theorem ShAt.mono (hl:∀b xs,H b=some (.lst xs)->H' b=some (.lst xs)) (ht:∀b xs,H b=some (.tup xs)->H' b=some (.tup xs)) (h:ShAt H a li lo ln nas s):ShAt H' a li lo ln nas s :=
 ⟨ht _ _ h.ha,hl _ _ h.hi,hl _ _ h.ho,hl _ _ h.hn,ag (λna node ⟨vs,h1,h2⟩=>⟨vs,hl _ _ h1,ag (λv st ⟨b,e,q⟩=>⟨b,e,ht _ _ q⟩) h2⟩) h.nodes⟩
theorem ShAt.same {H':Hp} (S:aj H H') (h:ShAt H a li lo ln nas s):ShAt H' a li lo ln nas s:=h.mono (λb xs e=>S b _ e) (λb xs e=>S b _ e)
theorem Sh.node_of {node:List (Str × Nat)} (h:s.nodes[i]?=some node):s.node i=node:=by
 unfold Sh.node;rw[Qx,h];rfl
theorem Sh.node_mem (h:i<s.nodes.length):s.node i∈s.nodes:=by
 unfold Sh.node;rw[Qx,Qe h];exact Q9 h
theorem Sh.R_lt (ok:ShOk s) (r:s.R i):i<s.nodes.length:=by
 induction r with
 | start=>exact ok.n1
 | @step a b _ hb ih =>
 obtain⟨p,hp,rfl⟩:=Qm.mp hb;exact ok.tos _ (Sh.node_mem ih) p hp
def gG:Sp:=λvs H Q _=>∃(a li lo ln:Addr) (nas:B3) (s:Sh) (row nm:Str),vs=[.ref a,.str row,.str nm]/\ShAt H a li lo ln nas s/\ShOk s/\StOk s.ws.length row/\nm∈s.ws/\∀H',aj H H'->Q (.str (b_ row (s.ws.idxOf nm))) H'
section
theorem pj {f:Addr} {fd:FuncData} (Fu:Fun K "row_behind" "row_behind" (top 21) f fd) (T:Txt K mg TT) (f_turned_at:Fn P w K mg base "turned_at" ["standing", "place"] 1 iA):FnOk P w K mg base CX0 2 f fd ["sheet", "row", "name"] gG:=by
 have S:=fH;refine Fu.ok S (by room) (λcdv A outer s H vs Q E hr h=>?_);obtain⟨a,li,lo,ln,nas,sh,row,nm,rfl,at_,ok,st,hnm,k⟩:=h;refine⟨_,(aI (aD (aM f_turned_at hr (aa (pv 1) (aa (bO QE Xk Xl gi (aO eD (am aA (pv 0) ae) (am aA (pv 0) ae)) (aa (pv 2) ac ad)) ac se_call) ad)))),?_⟩;x_go;have lw:(sh.ins.map V.str).length+(sh.outs.map V.str).length=sh.ws.length:=by rw[Qb,Qb];unfold Sh.ws;rw[Qh]
 have ha:=at_.ha;lk;refine gv at_.hi at_.ho (by rw[lw];have:=ok.w11;omega) λp hp=>?_;rw[<-QI];show tyV K "list" (.ref p) _/\_;refine⟨i_tyL af,?_⟩;lk;refine⟨p,sh.ws,nm,sh.ws.idxOf nm,rfl,rfl,af,lD hnm,fq,by have:=ok.w11;omega,?_⟩;lk;exact⟨row,_,_,rfl,st,QS hnm,ok.w11,k _ (aw hp)⟩
end
noncomputable def bo:Lm:=match b9 (top 22) with
 | _::.Assign _ (.Call _ [_,.Lambda p b sc pos] _ _) _::_=>⟨("rows_found" ++ ".<locals>.") ++ "<lambda>", p,b,sc,pos⟩
 | _=>⟨"", { posonlyargs:=[],args:=[],vararg:=none,kwonlyargs:=[],kw_defaults:=[],kwarg:=none,defaults:=[] },.Constant .none 0 ⟨0,0,0,0⟩,au (top 0),⟨0,0,0,0⟩⟩
theorem Aq (h:([(x,NameKind.local),(y,NameKind.free)]:List (Str × NameKind)).lookup z=some .free):z=y:=by
 rw[Q5]at h;by_cases e:(z==x)=true
 ·rw[e]at h;cases h
 have e:(z==x)=false:=by simpa using e
 rw[e]at h;simp only at h;rw[Q5]at h;by_cases e2:(z==y)=true
 ·exact eq_of_beq e2
 have e2:(z==y)=false:=by simpa using e2
 rw[e2]at h;cases h
theorem vh:LmScope "node" "sheet" bo.scope:=⟨rfl,rfl,rfl,rfl,rfl,by decide,by decide +kernel,λz h=>Aq h⟩
structure Tk (T:Addr) (H H':Hp):Prop where
 old:∀b o,H b=some o->b≠T->H' b=some o
 tab:cX T bo H'
theorem zV {l:Lm} (t:cX T l H):∃ps,H T=some (.tbl ps):=by rcases t with e|⟨c,e,_⟩ <;> exact⟨_,e⟩
theorem eT {l:Lm} (t:cX T l H) (h:H b=some o) (n:∀ps,o≠.tbl ps):b≠T:=λz=>by
 obtain⟨ps,e⟩:=zV t;rw[z,e]at h;exact n ps (QF h).symm
theorem c9 {l:Lm} (t:cX T l H) (S:aj H H'):cX T l H':=by
 rcases t with e|⟨c,e,q⟩
 ·exact .inl (S _ _ e)
 exact .inr ⟨c,S _ _ e,S _ _ q⟩
theorem Tk.lst (t:cX T bo H) (k:Tk T H H'):∀b xs,H b=some (.lst xs)->H' b=some (.lst xs):=λb xs e=>k.old b _ e (eT t e λ_ z=>nomatch z)
theorem Tk.tup (t:cX T bo H) (k:Tk T H H'):∀b xs,H b=some (.tup xs)->H' b=some (.tup xs):=λb xs e=>k.old b _ e (eT t e λ_ z=>nomatch z)
theorem Tk.dK (t:cX T bo H) (k:Tk T H H'):∀b xs,H b=some (.dK xs)->H' b=some (.dK xs):=λb xs e=>k.old b _ e (eT t e λ_ z=>nomatch z)
theorem Tk.of (t:cX T bo H) (S:aj H H'):Tk T H H':=⟨λb o e _=>S b o e,c9 t S⟩
theorem Tk.trans (a:Tk T H H1) (b:Tk T H1 H2):Tk T H H2:=⟨λc o e n=>b.old c o (a.old c o e n) n,b.tab⟩
def stK (s:Sh):Key->List (V × Key)
 | .inl i=>dA (s.node i.toNat)
 | .inr _=>[]
theorem ie (s:Sh) (i:Nat):stK s (Sum.inl (i:Int))=dA (s.node i):=by show dA (s.node (i:Int).toNat)=_;rw[Q7]
theorem k7 {y:Key}:y∈nxK (stK s) (Sum.inl (i:Int))↔∃p∈s.node i,y=Sum.inl (p.2:Int):=by
 unfold nxK;rw[ie];unfold dA;rw[Q3]
 constructor
 ·intro h;obtain⟨p,hp,e⟩:=Qm.mp h;exact⟨p,hp,e.symm⟩
 rintro⟨p,hp,rfl⟩;exact Qm.mpr ⟨p,hp,rfl⟩
theorem gM {x:Key} (r:Bf.Reach (nxK (stK s)) (Sum.inl 0) x):∃i:Nat,x=Sum.inl (i:Int)/\s.R i:=by
 induction r with
 | start=>exact⟨0,rfl,.start⟩
 | @step a b _ hb ih =>
 obtain⟨i,rfl,ri⟩:=ih;obtain⟨p,hp,rfl⟩:=k7.mp hb;exact⟨p.2,rfl,.step ri (Qm.mpr ⟨p,hp,rfl⟩)⟩
theorem sO (r:s.R i):Bf.Reach (nxK (stK s)) (Sum.inl 0) (Sum.inl (i:Int)):=by
 induction r with
 | start=>exact .start
 | @step a b _ hb ih =>
 obtain⟨p,hp,rfl⟩:=Qm.mp hb;exact .step ih (k7.mpr ⟨p,hp,rfl⟩)
theorem nB (ok:ShOk s) (nd:xs.Nodup) (h:∀x∈xs,∃i:Nat,x=Sum.inl (i:Int)/\s.R i):xs.length<=s.nodes.length:=by
 have:=Bf.pigeon xs ((List.range s.nodes.length).map λ(i:Nat)=>(Sum.inl (i:Int):Key)) nd λx hx=>by
  obtain⟨i,rfl,ri⟩:=h x hx;exact Qm.mpr ⟨i,Xx.mpr (Sh.R_lt ok ri),rfl⟩
 rwa [Qb,List.length_range]at this
structure RInv (s:Sh) (kvs:List (Key × V)):Prop where
 sound:∀k v,aU kvs k=some v->∃(i:Nat) (y:Str),k=Sum.inl (i:Int)/\v=.str y/\s.R i/\StOk s.ws.length y/\∀lam,Lab s lam->lam i=y
 zero:aU kvs (Sum.inl 0)=some (.str s.z)
 nd:(kvs.map (·.1)).Nodup
theorem RInv.at {kvs:List (Key × V)} (h:RInv s kvs) (n:aU kvs (Sum.inl (i:Int))≠none):∃y,aU kvs (Sum.inl (i:Int))=some (.str y)/\StOk s.ws.length y/\∀lam,Lab s lam->lam i=y:=by
 cases e:aU kvs (Sum.inl (i:Int)) with
 | none=>exact absurd e n
 | some v =>
 obtain⟨j,y,ej,rfl,_,st,l⟩:=h.sound _ _ e;cases ej;exact⟨y,rfl,st,l⟩
theorem RInv.first (ok:ShOk s):RInv s [(Sum.inl 0,.str s.z)] where
 sound:=λk v e=>by
  by_cases c:(Sum.inl 0:Key)=k
  ·rw[bz (p:=(Sum.inl 0,V.str s.z)) c]at e;cases e;subst c;exact⟨0,s.z,rfl,rfl,.start,ok.st,λlam l=>l.1⟩
  rw[bD (p:=(Sum.inl 0,V.str s.z)) c]at e;cases e
 zero:=bz (p:=(Sum.inl 0,V.str s.z)) rfl
 nd:=by simp
theorem RInv.few {kvs:List (Key × V)} (ok:ShOk s) (h:RInv s kvs):kvs.length<=s.nodes.length:=by
 have:=nB ok h.nd λx hx=>by
  cases e:aU kvs x with
  | none=>exact absurd hx (eS e)
  | some v =>
  obtain⟨i,y,rfl,_,r,_⟩:=h.sound _ _ e;exact⟨i,rfl,r⟩
 rwa [Qb]at this
theorem RInv.put {kvs:List (Key × V)} (ok:ShOk s) (h:RInv s kvs) {p:Str × Nat} (r:s.R i) (hp:p∈s.node i) (hy:aU kvs (Sum.inl (i:Int))=some (.str y)) (n:aU kvs (Sum.inl (p.2:Int))=none):RInv s (bv kvs (Sum.inl (p.2:Int)) (.str (b_ y (s.ws.idxOf p.1)))) where
 sound:=λk v e=>by
  rw[cR]at e;by_cases c:k=Sum.inl (p.2:Int)
  ·rw[Qs c]at e;cases e;obtain⟨j,y',ej,ey,_,st,l⟩:=h.sound _ _ hy;cases ej;cases ey;exact⟨p.2,_,c,rfl,.step r (Qm.mpr ⟨p,hp,rfl⟩),dJ st (QS (ok.names _ (Sh.node_mem (Sh.R_lt ok r)) p hp)),λlam L=>by rw[L.2 i r p hp,l lam L]⟩
  rw[Qo c]at e;exact h.sound k v e
 zero:=by
  rw[cR];by_cases c:(Sum.inl 0:Key)=Sum.inl (p.2:Int)
  ·rw[<-c,h.zero]at n;cases n
  rw[Qo c];exact h.zero
 nd:=by
  rw[eX _ n,QI,X4];refine⟨h.nd,by simp,λa ha b hb=>?_⟩;have:b=Sum.inl (p.2:Int):=by simpa using hb
  subst this;intro e;subst e;exact eS n ha
theorem jM {kvs:List (Key × V)} {k j:Key} (h:aU kvs j≠none):aU (bv kvs k v) j≠none:=by
 rw[cR]
 split
 ·exact λz=>nomatch z
 exact h
structure RowsOk (s:Sh) (kvs:List (Key × V)):Prop where
 inv:RInv s kvs
 all:∀i,s.R i->aU kvs (Sum.inl (i:Int))≠none
def kI (TL:Addr):Sp:=λvs H Q _=>∃(a li lo ln:Addr) (nas:B3) (s:Sh),vs=[.ref a]/\ShAt H a li lo ln nas s/\ShOk s/\cX TL bo H/\∀(R:Addr) (kvs:List (Key × V)) H',Tk TL H H'->H R=none->H' R=some (.dK kvs)->RowsOk s kvs->Q (.ref R) H'
theorem gX {kvs:List (Key × V)} (nd:(kvs.map (·.1)).Nodup):∀{i:Nat} {k:Key} {v:V},kvs[i]?=some (k,v)->aU kvs k=some v:=by
 induction kvs with
 | nil=>intro i k v e;simp at e
 | cons p r ih =>
 intro i k v e;rw[Qw,QU]at nd
 cases i with
 | zero =>
  simp at e;subst e;exact bz (p:=(k,v)) rfl
 | succ i =>
 simp at e;rw[bD (λz:p.1=k=>nd.1 (by rw[z];exact Qm.mpr ⟨(k,v),Qk e,rfl⟩))];exact ih nd.2 e
theorem tH {c:Addr} (h:H c=some o):upd (bQ H c) c o=H:=by
 funext b;by_cases e:b=c
 ·subst e;rw[af,h]
 rw[ah e,bx e]
section
theorem pZ {f c cell:Addr}:Calls P w K mg base 1 f (Ak f bo "sheet" cell c (tOp (ww K) (tOp (uu K) (fO 1) (tC (.int 3))) (fO 0))) :=
 s_ (k:=0) vh (λpm ctv u=>rfl) λA outer s H hr=>am aX (am aA (pv 1) ae) (pv 0) (λ_ _=>rfl)
theorem ju:FnScope ["sheet", "rows", "found", "node", "name", "to"] ["sheet"] (au (top 22)):=by fin2
theorem wI {TL cc:Addr} {f:Addr} {fd:FuncData} (Fu:FunC K "rows_found" "rows_found" (top 22) f fd cc) (T:Txt K mg TT) (CT:PySem.W.CodeHd base cc TL) (BM:fM base mg) (f_found_from:Fn P w K mg base "found_from" ["start", "steps_of"] 2 (kK P w K mg base 1)) (f_row_behind:Fn P w K mg base "row_behind" ["sheet", "row", "name"] 2 gG) :
  FnOk P w K mg base CX0 3 f fd ["sheet"] (kI TL):=by
 have S:=ju;refine Fu.ok S (λvs H Q E h=>?_) (λA outer s H vs Q E hr h=>?_)
 ·obtain⟨a,li,lo,ln,nas,sh,rfl,_⟩:=h;rfl
 obtain⟨a,li,lo,ln,nas,sh,rfl,at_,ok,tb,k⟩:=h;have hu:=cV hr;have HCL:PySem.closureFor bo.scope (PyProof.Rows.envOfC "rows_found" (au (top 22)) s.heap.objs.size f (.ref cc))=pure [(("sheet" : Str),(s.heap.objs.size+1:Addr))]:=by rfl
 refine'⟨?_,?bb,?_⟩
 case bb =>
  walk_at "b";exact aG 1 S.nd (qT (mL ae (am aA (pv 0) ae) qR) rfl rfl (by simp) (by decide));exact aG 2 S.nd (y_ (i:=0) f_found_from (hr.mono (by first|decide|omega)) (by rfl) (aa ae (aa (yY (T:=TL) (cl:=[(("sheet" : Str),(s.heap.objs.size+1:Addr))]) rfl CT BM HCL) ac) aP) rfl rfl (Or.inr (Or.inl rfl)) rfl rfl);refine' uA ?_;rotate_left 1;walk_at "f";exact(mN (pv 2));exact(bB 3 S.nd);walk_at "p";walk_at "f";exact(bi (dL hu (pv 2) (pv 3)));exact(dQ rfl (aH (bB 4 S.nd) (aH (bB 5 S.nd) bL)));walk_at "p";exact(bZ (uH (pv 1) (pv 5) (aM f_row_behind hr (aa (pv 0) (aa (dL hu (pv 1) (pv 3)) (aa (pv 4) ac ad)) ad)) ⟨rfl,rfl,rfl,rfl⟩));exact(aD (pv 1))
 x_go;generalize hcell:s.heap.objs.size+1=cell;refine s_seq (s_asg ?_);refine λR hR=>?_;have aR:a≠R:=ao at_.ha hR;have haR:upd H R (.dK []) a=some (.tup [.ref li,.ref lo,.str sh.z,.ref ln]):=by rw[ah aR];exact at_.ha
 show tOp (uu K) (fO 0) (tC (V.int 2)) [some (.ref a),none,none,none,none,none] (upd H R (.dK [])) _;refine i_op (aE rfl (i_c (i_ixT haR rfl ?_)));refine⟨af,[(Sum.inl 0,.str sh.z)],rfl,by simp,?_⟩;rw[qk];refine az ?_;ctx_has H R H1 S1 q1 ak hR;have q1:H1 R=some (.dK [(Sum.inl 0,.str sh.z)]):=q1;have tb1:cX TL bo H1:=c9 tb S1;kt_k;with_reducible refine s_asg ?_
 show fF (tC (V.int 0)) (fF (zY TL bo [("sheet", cell)]) lY) _ _ _;refine aY (i_c (aY ⟨tb1,λfl c H2 md=>aZ ⟨_,rfl,λo uy hd ru hc=>?_⟩⟩));have md:Made TL bo [("sheet", cell)] H1 fl c H2:=md;obtain rfl:uy=Value.ref a:=ru
 -- at the call
 have at2:ShAt H2 a li lo ln nas sh:=(at_.same S1).mono (λb xs e=>md.old b _ e (eT tb1 e λ_ z=>nomatch z)) (λb xs e=>md.old b _ e (eT tb1 e λ_ z=>nomatch z));have S2c:aj H2 (upd H2 cell (dI o)):=aw hc;have hf2:upd H2 cell (dI o) fl=some (gW fl bo [("sheet", cell)] c):=S2c _ _ md.fn;have hcc2:upd H2 cell (dI o) c=some (hU c bo.qual):=S2c _ _ md.code;have hcl2:upd H2 cell (dI o) cell=some (dI o):=af;have at2c:ShAt (upd H2 cell (dI o)) a li lo ln nas sh:=at2.same S2c;have k12:∀b u,H b=some u->b≠TL->upd H2 cell (dI o) b=some u:=λb u e n=>S2c _ _ (md.old b u (S1 _ _ e) n);have tb2:cX TL bo (upd H2 cell (dI o)):=.inr ⟨c,S2c _ _ md.tab,hcc2⟩;have hR2:upd H2 cell (dI o) R=some (.dK [(Sum.inl 0,.str sh.z)]):=S2c _ _ (md.old _ _ q1 (eT tb1 q1 λ_ z=>nomatch z));have nocell:∀{b u},H2 b=some u->b≠cell:=λe z=>by rw[z,hc]at e;cases e
 have H2R:∀{b u},H b=some u->b≠TL->b≠cell:=λ{b u} e n=>nocell (md.old b u (S1 _ _ e) n);have acell:a≠cell:=nocell at2.ha;have lncell:ln≠cell:=nocell at2.hn;have Rcell:R≠cell:=nocell (md.old _ _ q1 (eT tb1 q1 λ_ z=>nomatch z));have Tcell:TL≠cell:=nocell md.tab;have ccell:c≠cell:=nocell md.code;generalize upd H2 cell (dI o)=H2c at *;refine⟨Sum.inl 0,fl,bo,[("sheet", cell)],c,_,stK sh,sh.nodes.length,rfl,hf2,pZ (c:=c) (cell:=cell),by have:=ok.n100;omega,λx H4 Q1 rx S4 q4=>?_,λxs nd h=>nB ok nd λx hx=>gM (h x hx),λF as n H3 S3 hF ln3 las hF3 sts=>?_⟩
 ·obtain⟨i,rfl,ri⟩:=gM rx;have hi:=Sh.R_lt ok ri;have at4:=at2c.same S4;have hcl4:=S4 _ _ hcl2;obtain⟨na,hna,hst⟩:=bg at4.nodes (Qe hi);refine⟨o,Value.ref a,.ref a,S4 _ _ hf2,S4 _ _ hcc2,hcl4,hd,rfl,?_⟩;have ha4:bQ H4 cell a=some (.tup [.ref li,.ref lo,.str sh.z,.ref ln]):=by rw[bx acell];exact at4.ha
  have hn4:bQ H4 cell ln=some (.lst (nas.map V.ref)):=by rw[bx lncell];exact at4.hn
  refine i_op (i_op (aE rfl (i_c (i_ixT ha4 rfl (aE rfl ?_)))));refine(i_ixL (v:=.ref na) (SqL.of hn4) (bK (by rw[Qp,hna];rfl)) ?_:ww K _ (.int (i:Int)) _ _);rw[tH hcl4];refine q4 na H4 (λ_ _ e=>e) ?_;rw[ie,Sh.node_of (Qe hi)];exact hst
 show d5 2 (V.ref F) _ (bQ H3 cell) _;have hcl3:=S3 _ _ hcl2;have d3:∀{b u},H3 b=some u->b≠cell->bQ H3 cell b=some u:=λe n=>by rw[bx n];exact e
 have Fcell:F≠cell:=λz=>by rw[z,hcl2]at hF;cases hF
 have FR:F≠R:=λz=>by rw[z,hR2]at hF;cases hF
 have tb3:cX TL bo (bQ H3 cell):=by
  rcases tb2 with e|⟨c',e,q⟩
  ·exact .inl (d3 (S3 _ _ e) Tcell)
  have c'cell:c'≠cell:=λz=>by rw[z,hcl2]at q;cases q
  exact .inr ⟨c',d3 (S3 _ _ e) Tcell,d3 (S3 _ _ q) c'cell⟩
 have k13:∀b u,H b=some u->b≠TL->bQ H3 cell b=some u/\b≠F:=λb u e n=>⟨d3 (S3 _ _ (k12 b u e n)) (H2R e n),λz=>by rw[<-z,k12 b u e n]at hF;cases hF⟩;have hF3d:bQ H3 cell F=some (.dK (fdK (Bf.bfs (nxK (stK sh)) (Sum.inl 0) n) as)):=d3 hF3 Fcell;have hR3:bQ H3 cell R=some (.dK [(Sum.inl 0,.str sh.z)]):=d3 (S3 _ _ hR2) Rcell;have at3:ShAt (bQ H3 cell) a li lo ln nas sh:=at_.mono (λb xs e=>(k13 b _ e (eT tb e λ_ z=>nomatch z)).1) (λb xs e=>(k13 b _ e (eT tb e λ_ z=>nomatch z)).1)
 have sts3:∀(i:Nat) x b,(Bf.bfs (nxK (stK sh)) (Sum.inl 0) n)[i]?=some x->as[i]?=some b->bF (bQ H3 cell) b (stK sh x):=λi x b e1 e2=>by
  obtain⟨vs,h1,h2⟩:=sts i x b e1 e2;refine⟨vs,d3 h1 (λz=>by rw[z,hcl3]at h1;cases h1),ag (λv st ⟨b,e,q⟩=>⟨b,e,d3 q (λz=>by rw[z,hcl3]at q;cases q)⟩) h2⟩
 have HT3:Tk TL H (bQ H3 cell):=⟨λb u e n=>(k13 b u e n).1,tb3⟩;clear d3;generalize bQ H3 cell=H3d at *;generalize hO:Bf.bfs (nxK (stK sh)) (Sum.inl 0) n=order at *;refine az ?_;kt_k;refine(ya (a:=F) (u:=.dK (fdK order as)) (.inl hF3d) trivial λob=>?_);have h4:∀b,b≠F->upd H3d F (.frz ob (.dK (fdK order as))) b=H3d b:=λb n=>ah n;have hF4:upd H3d F (.frz ob (.dK (fdK order as))) F=some (.frz ob (.dK (fdK order as))):=af;generalize upd H3d F (.frz ob (.dK (fdK order as)))=H4 at *;have l4:∀b xs,H3d b=some (.lst xs)->H4 b=some (.lst xs):=λb xs e=>by rw[h4 b (λz=>by rw[z,hF3d]at e;cases e)];exact e
 have t4:∀b xs,H3d b=some (.tup xs)->H4 b=some (.tup xs):=λb xs e=>by rw[h4 b (λz=>by rw[z,hF3d]at e;cases e)];exact e
 have at4:ShAt H4 a li lo ln nas sh:=at3.mono l4 t4;have hR4:H4 R=some (.dK [(Sum.inl 0,.str sh.z)]):=by rw[h4 R FR.symm];exact hR3
 have sts4:∀(i:Nat) x b,order[i]?=some x->as[i]?=some b->bF H4 b (stK sh x):=λi x b e1 e2=>by
  obtain⟨vs,h1,h2⟩:=sts3 i x b e1 e2;exact⟨vs,l4 _ _ h1,ag (λv st ⟨b,e,q⟩=>⟨b,e,t4 _ _ q⟩) h2⟩
 have oreach:∀x∈order,∃i:Nat,x=Sum.inl (i:Int)/\sh.R i:=λx hx=>gM (Bf.dj n x (hO▸hx));have lfd:(fdK order as).length=n:=by rw[rq (by omega)];exact las
 -- each has a row when it is gone along
 have has:∀(kvs:List (Key × V)) (j:Nat),RInv sh kvs->(∀j',j'<j->∀x,order[j']?=some x->∀y∈nxK (stK sh) x,aU kvs y≠none)->∀x,order[j]?=some x->aU kvs x≠none:=λkvs j inv hp x hx=>by
  cases j with
  | zero =>
   have:=Bf.oj (nx:=nxK (stK sh)) (s:=(Sum.inl 0:Key)) n;rw[hO,hx]at this;cases this;rw[inv.zero];exact λz=>nomatch z
  | succ j =>
  obtain⟨i,y,h1,_,h3,h4⟩:=Bf.jm n (j+1) x (by omega) (by rw[hO];exact hx);rw[hO]at h3;exact hp i h1 y h3 x h4
 refine s_for (qI (aE rfl ⟨F,ob,_,rfl,hF4,?_⟩));let I16:IvF:=λj σ' H'=>∃(kvs:List (Key × V)) (x3 x4 x5:Option V),σ'=[some (.ref a),some (.ref R),some (.ref F),x3,x4,x5]/\(∀b u,H4 b=some u->b≠R->H' b=some u)/\H' R=some (.dK kvs)/\RInv sh kvs/\∀j',j'<j->∀x,order[j']?=some x->∀y∈nxK (stK sh) x,aU kvs y≠none
 refine nO I16
  ⟨_,_,_,_,rfl,λb u e _=>e,hR4,RInv.first ok,λj' h=>absurd h (X8 _)⟩ (λj σ' H' _ pv=>?_) (λj ky vl σ' H' hj pv=>?_) (λσ' H' pv=>?_)
 ·obtain⟨_,_,_,_,_,o4,_⟩:=pv;exact o4 F _ hF4 FR
 ·obtain⟨kvs,x3,x4,x5,rfl,o4,hR',inv,hp⟩:=pv
  obtain⟨x,b,hx,hb,e1,e2⟩:∃x b,order[j]?=some x/\as[j]?=some b/\ky=x/\vl=V.ref b:=by
   have hj2:=hj;unfold fdK at hj2;rw[Qp]at hj2
   cases q:(order.zip as)[j]? with
   | none=>rw[q]at hj2;cases hj2
   | some p =>
   rw[q]at hj2;cases hj2;have:=List.getElem?_zip_eq_some.mp q;exact⟨p.1,p.2,this.1,this.2,rfl,rfl⟩
  subst e1 e2;obtain⟨i,rfl,ri⟩:=oreach ky (Qk hx);obtain⟨vs,hvs,prs⟩:=sts4 j _ b hx hb;have bR:b≠R:=λz=>by rw[z,hR4]at hvs;cases hvs
  have dg:cF H' F (kV (Sum.inl (i:Int))) (some (.ref b)):=by
   refine .inl ⟨fdK order as,Sum.inl (i:Int),.inr ⟨ob,o4 F _ hF4 FR⟩,rfl,?_⟩;refine(gX ?_ hj).symm;rw[nR];exact(List.take_sublist _ _).nodup (hO▸Bf.dq n)
  refine az ?_;refine s_for (s_list (i_dget (aE rfl (aE rfl ⟨F,_,rfl,dg,b,rfl,⟨_,SqL.of (o4 _ _ hvs bR)⟩,?_⟩))))
  have lvs:vs.length=(sh.node i).length:=by
   have:=av prs;rw[ie]at this;unfold dA at this;rwa [Qb]at this
  let I17:IvF:=λi' σ' H'=>∃(kvs:List (Key × V)) (x4 x5:Option V),σ'=[some (.ref a),some (.ref R),some (.ref F),some (.int (i:Int)),x4,x5]/\(∀b u,H4 b=some u->b≠R->H' b=some u)/\H' R=some (.dK kvs)/\RInv sh kvs/\(∀j',j'<j->∀x,order[j']?=some x->∀y∈nxK (stK sh) x,aU kvs y≠none)/\∀q∈(sh.node i).take i',aU kvs (Sum.inl (q.2:Int))≠none
  refine cE (xs:=vs) I17
   ⟨_,_,_,rfl,o4,hR',inv,hp,λq hq=>by simp at hq⟩ (λi' σ' H' _ pv=>?_) (λi' v σ' H' hv pv=>?_) (λσ' H' pv=>?_)
  ·obtain⟨_,_,_,_,o5,_⟩:=pv;exact SqL.of (o5 _ _ hvs bR)
  ·obtain⟨kvs,x4,x5,rfl,o5,hR5,inv5,hp5,hq5⟩:=pv;obtain⟨st,hst,tp,rfl,htp⟩:=paired_get prs hv;rw[ie]at hst;unfold dA at hst;rw[Qp]at hst
   cases hpq:(sh.node i)[i']? with
   | none=>rw[hpq]at hst;cases hst
   | some q =>
   rw[hpq]at hst;cases hst;have hqm:q∈sh.node i:=Qk hpq;have htp':H' tp=some (.tup [.str q.1,.int (q.2:Int)]):=o5 _ _ htp (λz=>by rw[z,hR4]at htp;cases htp);refine⟨tp,_,rfl,SqT.of htp',rfl,_,_,rfl,az ⟨_,_,rfl,az ⟨rfl,?_⟩⟩⟩;have hrow:=has kvs j inv5 hp5 _ hx;obtain⟨y,hy,sty,_⟩:=inv5.at hrow;refine s_drop (xn (aE rfl ⟨R,rfl,.inl ⟨_,.inl hR5⟩,aE rfl ?_⟩));refine i_call (aY (aE rfl (aY (i_dget (aE rfl (aE rfl ⟨R,_,rfl,by have:=cF.k (k:=Sum.inl (i:Int)) hR5;rw[hy]at this;exact this,aY (aE rfl (aZ ?_))⟩))))));have at5:ShAt H' a li lo ln nas sh:=at4.mono (λb xs e=>o5 b _ e (λz=>by rw[z,hR4]at e;cases e)) (λb xs e=>o5 b _ e (λz=>by rw[z,hR4]at e;cases e));refine⟨a,li,lo,ln,nas,sh,y,q.1,rfl,at5,ok,sty,ok.names _ (Sh.node_mem (Sh.R_lt ok ri)) q hqm,λH6 S6=>?_⟩
   have nextq:∀{kv:List (Key × V)},(∀q'∈(sh.node i).take i',aU kv (Sum.inl (q'.2:Int))≠none)->aU kv (Sum.inl (q.2:Int))≠none->∀q'∈(sh.node i).take (i'+1),aU kv (Sum.inl (q'.2:Int))≠none:=λh1 h2 q' hq'=>by
    rw[XH,hpq]at hq';rcases Qz.mp hq' with h|h
    ·exact h1 q' h
    have:q'=q:=by simpa using h
    subst this;exact h2
   refine⟨kvs,Sum.inl (q.2:Int),S6 _ _ hR5,rfl,λv hv=>?_,λhn=>⟨by have:=inv5.few ok;have:=ok.n100;omega,?_⟩⟩
   ·exact⟨kvs,_,_,rfl,λb u e n=>S6 _ _ (o5 b u e n),S6 _ _ hR5,inv5,hp5,nextq hq5 (by rw[hv];exact λz=>nomatch z)⟩
   refine⟨_,_,_,rfl,λb u e n=>by rw[ah n];exact S6 _ _ (o5 b u e n),af,inv5.put ok ri hqm hy hn,λj' h x hx' y hy'=>jM (hp5 j' h x hx' y hy'),nextq (λq' h=>jM (hq5 q' h)) ?_⟩;rw[cR,Qs rfl];exact λz=>nomatch z
  obtain⟨kvs,x4,x5,rfl,o5,hR5,inv5,hp5,hq5⟩:=pv;refine⟨kvs,_,_,_,rfl,o5,hR5,inv5,λj' h x hx' y hy'=>?_⟩;by_cases c:j'<j
  ·exact hp5 j' c x hx' y hy'
  have:j'=j:=by omega
  subst this;rw[hx]at hx';cases hx';obtain⟨q,hq,rfl⟩:=k7.mp hy';exact hq5 q (by rw[lvs,QV (Qg _)];exact hq)
 obtain⟨kvs,x3,x4,x5,rfl,o4,hR',inv,hp⟩:=pv;rw[lfd]at hp;refine⟨o4 F _ hF4 FR,?_⟩;refine s_ret (aE rfl ?_);refine k R kvs _ ⟨λb u e nT=>?_,?_⟩ hR (by rw[bJ FR.symm];exact hR') ⟨inv,λi ri=>?_⟩
 ·obtain⟨e3,nF⟩:=k13 b u e nT;rw[bJ nF];exact o4 b u (by rw[h4 b nF];exact e3) (ao e hR)
 ·have bk:∀{b u},H3d b=some u->b≠F->b≠R->back H3d F H' b=some u:=λ{b u} e n1 n2=>by rw[bJ n1];exact o4 b u (by rw[h4 b n1];exact e) n2
  rcases tb3 with e|⟨c',e,q⟩
  ·exact .inl (bk e (λz=>by rw[z,hF3d]at e;cases e) (λz=>by rw[z,hR3]at e;cases e))
  exact .inr ⟨c',bk e (λz=>by rw[z,hF3d]at e;cases e) (λz=>by rw[z,hR3]at e;cases e),bk q (λz=>by rw[z,hF3d]at q;cases q) (λz=>by rw[z,hR3]at q;cases q)⟩
 have hm:(Sum.inl (i:Int):Key)∈order:=hO▸(Bf.xC (by rw[hO];omega) _).mpr (sO ri);obtain⟨j,hj,e⟩:=List.mem_iff_getElem.mp hm;exact has kvs j inv (λj' h=>hp j' (by omega)) _ (by rw[Qe hj,e])
end
structure SgsOk (s:Sh) (vs:List V):Prop where
 len:vs.length=s.nodes.length
 row:∀i,s.R i->∃y,vs[i]?=some (.str y)/\StOk s.ws.length y/\∀lam,Lab s lam->lam i=y
 none:∀i,i<s.nodes.length->¬s.R i->vs[i]?=some .non
def qy (TL:Addr):Sp:=λvs H Q _=>∃(a li lo ln:Addr) (nas:B3) (s:Sh),vs=[.ref a]/\ShAt H a li lo ln nas s/\ShOk s/\cX TL bo H/\∀(L:Addr) (us:List V) H',Tk TL H H'->H L=none->H' L=some (.lst us)->SgsOk s us->Q (.ref L) H'
section
theorem my:FnScope ["sheet", "rows"] ["sheet"] (au (top 25)):=by fin2
theorem uU {TL:Addr} {f:Addr} {fd:FuncData} (Fu:Fun K "signs_of" "signs_of" (top 25) f fd) (T:Txt K mg TT) (f_rows_found:Fn P w K mg base "rows_found" ["sheet"] 3 (kI TL)):FnOk P w K mg base CX0 4 f fd ["sheet"] (qy TL):=by
 have S:=my;refine Fu.ok S (by room) (λcdv A outer s H vs Q E hr h=>?_);obtain⟨a,li,lo,ln,nas,sh,rfl,at_,ok,tb,k⟩:=h;have hu:=cV hr
 refine⟨_,(aK (aG 1 S.nd (aM f_rows_found hr (aa (pv 0) ac ad)))
  (aI (aD (dW "node" [("rows", 1)] (dU (by rfl) T.n_range (aa (aq ay (by rfl) T.n_len QL (aa (am aA (pv 0) ae) ac)) ac se_call)) (λ_ _ _ _=>(uL hu (pv 1) (pv 0) ⟨rfl,rfl,rfl,rfl⟩)))))),?_⟩
 x_go;lk;refine⟨a,li,lo,ln,nas,sh,rfl,at_,ok,tb,λR kvs H1 t1 hR hR1 rok=>?_⟩;have at1:ShAt H1 a li lo ln nas sh:=at_.mono (t1.lst tb) (t1.tup tb);have ha1:=at1.ha;have lnas:nas.length=sh.nodes.length:=av at1.nodes;have n100:=ok.n100;lk;refine bC ?_;lk;refine⟨_,_,rfl,Or.inl (SqL.of at1.hn),?_⟩;lk;refine⟨by rw[Qb];omega,by rw[Qb];omega,λL hL=>?_⟩;rw[Q7,Qb,lnas]
 have HL:H L=none:=by
  cases e:H L with
  | none=>rfl
  | some o =>
  by_cases c:L=TL
  ·obtain⟨ps,e2⟩:=zV t1.tab;rw[c,e2]at hL;cases hL
  rw[t1.old _ _ e c]at hL;cases hL
 let I18:IvC:=λn H' ys=>aj H1 H'/\H' L=some (.lst ys)/\ys=(List.range n).map λ(i:Nat)=>(aU kvs (Sum.inl (i:Int))).getD .non;refine jf (n:=sh.nodes.length) I18 ⟨aw hL,af,rfl⟩ (λi H' ys pv=>pv.2.1) (λi H' ys hi pv=>?_) (λH' ys pv=>?_)
 ·obtain⟨S2,hl,rfl⟩:=pv;rw[Int.zero_add];refine az ⟨by repeat' (first|exact trivial|refine⟨rfl,?_⟩),i_yes (cu ?_)⟩;refine xp (aE rfl ⟨R,rfl,.inl ⟨_,.inl (S2 _ _ hR1)⟩,aE rfl ⟨_,cF.k (k:=Sum.inl (i:Int)) (S2 _ _ hR1),?_⟩⟩);refine c8.mk hl hi (by rw[Qb,List.length_range];omega) ⟨bu S2 hL,af,?_⟩;rw[List.range_succ,QI];rfl
 obtain⟨S2,hl,rfl⟩:=pv;refine k L _ H' (t1.trans (Tk.of t1.tab S2)) HL hl ⟨by rw[Qb,List.length_range],λi ri=>?_,λi hi nr=>?_⟩
 ·obtain⟨y,hy,st,l⟩:=rok.inv.at (rok.all i ri);refine⟨y,?_,st,l⟩;rw[Qp,List.getElem?_range (Sh.R_lt ok ri)];show some ((aU kvs (Sum.inl (i:Int))).getD .non)=_;rw[hy];rfl
 rw[Qp,List.getElem?_range hi];show some ((aU kvs (Sum.inl (i:Int))).getD .non)=_
 cases e:aU kvs (Sum.inl (i:Int)) with
 | none=>rfl
 | some v =>
 obtain⟨j,y,ej,_,r,_⟩:=rok.inv.sound _ _ e;cases ej;exact absurd r nr
end
def c7 (m:List Nat) (i:Nat):List Nat:=if i∈m then m else m++[i]
def br (r:Rg) (ts:List Tu) (ps:List Pl) (p:Pl):Nd:=(ts.filter (cK r.arcs p.1)).map λt=>(t.1,ps.idxOf (aW r p t).2)
theorem i6 [BEq α] [LawfulBEq α] {xs ys:List α} {x:α} (h:x∈xs):(xs++ys).idxOf x=xs.idxOf x:=by
 rw[List.idxOf_append,Qs h]
theorem zO {k:Nat} (h:i<k):c7 (List.range k) i=List.range k:=by unfold c7;rw[Qs (Xx.mpr h)]
theorem xH {k:Nat}:c7 (List.range k) k=List.range (k+1):=by
 unfold c7;rw[Qo (by rw[Xx];omega),List.range_succ]
structure InO (r:Rg) (row:Str) (ss:List Sp1) (x x':Sx) (nd nd':Nd) (e:List Pl):Prop where
 ps:x'.ps=x.ps++e
 un:x.ps.Nodup->x'.ps.Nodup
 node:nd'=nd++ss.map λs=>(s.1.1,x'.ps.idxOf s.2)
 odd:∀s∈ss,dy r row s=none/\s.2∈x'.ps
 new:∀p∈e,∃s∈ss,s.2=p
 l40:x.ps.length<=40->x'.ps.length<=40
 met:(ss.map λs=>x'.ps.idxOf s.2).foldl c7 (List.range x.ps.length)=List.range x'.ps.length
theorem lC {r:Rg} {row:Str} {way:List Tu}:∀{ss:List Sp1} {x x':Sx} {nd nd':Nd},bM r row way ss x nd=.inr (x',nd')->∃e,InO r row ss x x' nd nd' e
 | [],x,x',nd,nd',h=>by
  unfold bM at h;cases h;exact⟨[],by simp,id,by simp,(λs hs=>nomatch hs),(λs hs=>nomatch hs),id,rfl⟩
 | s::ss,x,x',nd,nd',h=>by
  unfold bM at h
  cases co:dy r row s with
  | some w=>rw[co]at h;cases h
  | none =>
  rw[co]at h;dsimp only at h;by_cases c:s.2∈x.ps
  ·rw[Qs c]at h;obtain⟨e,i⟩:=lC h;have m':s.2∈x'.ps:=by rw[i.ps];exact Xb _ c
   have ei:x'.ps.idxOf s.2=x.ps.idxOf s.2:=by rw[i.ps,i6 c]
   refine⟨e,i.ps,i.un,?_,λt ht=>?_,λp hp=>?_,i.l40,?_⟩
   ·rw[i.node,XX,Qw,ei];rfl
   ·rcases Qj.mp ht with rfl|ht
    ·exact⟨co,m'⟩
    exact i.odd t ht
   ·obtain⟨t,ht,q⟩:=i.new p hp;exact⟨t,Qn _ ht,q⟩
   rw[Qw,List.foldl_cons,ei,zO (QS c)];exact i.met
  rw[Qo c]at h;by_cases c40:x.ps.length=40
  ·rw[Qs c40]at h;cases h
  rw[Qo c40]at h;obtain⟨e,i⟩:=lC h;have ps:=i.ps;dsimp only at ps;have m0:s.2∈x.ps++[s.2]:=by simp
  have m':s.2∈x'.ps:=by rw[ps];exact Xb _ m0
  have ei:x'.ps.idxOf s.2=x.ps.length:=by rw[ps,i6 m0,List.idxOf_append,Qo c];simp
  refine⟨s.2::e,by rw[ps];simp,λn=>i.un ?_,?_,λt ht=>?_,λp hp=>?_,λl=>i.l40 ?_,?_⟩
  ·show (x.ps++[s.2]).Nodup;rw[X4];exact⟨n,by simp,λa ha b hb z=>c (by rw[<-Qy.mp hb,<-z];exact ha)⟩
  ·rw[i.node,XX,Qw,ei];rfl
  ·rcases Qj.mp ht with rfl|ht
   ·exact⟨co,m'⟩
   exact i.odd t ht
  ·rcases Qj.mp hp with rfl|hp
   ·exact⟨s,by simp,rfl⟩
   obtain⟨t,ht,q⟩:=i.new p hp;exact⟨t,Qn _ ht,q⟩
  ·show (x.ps++[s.2]).length<=40;rw[Qh,QP];omega
  have im:=i.met;rw[Qw,List.foldl_cons,ei,xH];rw[show (x.ps++[s.2]).length=x.ps.length+1 by rw[Qh];rfl]at im;exact im
structure OuO (r:Rg) (ts:List Tu) (x:Sx) (nds:List Nd):Prop where
 le:nds.length<=x.ps.length
 l40:x.ps.length<=40
 zero:x.ps[0]?=some (mks r.arcs,r.z)
 nd:x.ps.Nodup
 ok:∀p∈x.ps,PlOk r p
 node:∀(i:Nat) (p:Pl),i<nds.length->x.ps[i]?=some p->nds[i]?=some (br r ts x.ps p)/\∀t∈ts,cK r.arcs p.1 t=true->(aW r p t).2∈x.ps/\dy r p.2 (aW r p t)=none
 from_:∀(j:Nat) (p:Pl),x.ps[j]?=some p->j=0\/∃(i:Nat) (q:Pl) (t:Tu),i<j/\i<nds.length/\x.ps[i]?=some q/\t∈ts/\cK r.arcs q.1 t=true/\(aW r q t).2=p
 met:((nds.map λnd=>nd.map (·.2)).flatten).foldl c7 [0]=List.range x.ps.length
structure ShtP (r:Rg) (ts:List Tu) (ps:List Pl) (nds:List Nd):Prop where
 len:ps.length=nds.length
 l40:ps.length<=40
 zero:ps[0]?=some (mks r.arcs,r.z)
 nd:ps.Nodup
 ok:∀p∈ps,PlOk r p
 node:∀(i:Nat) (p:Pl),ps[i]?=some p->nds[i]?=some (br r ts ps p)
 mem:∀p∈ps,∀t∈ts,cK r.arcs p.1 t=true->(aW r p t).2∈ps/\dy r p.2 (aW r p t)=none
 from_:∀(j:Nat) (p:Pl),ps[j]?=some p->j=0\/∃(i:Nat) (q:Pl) (t:Tu),i<j/\ps[i]?=some q/\t∈ts/\cK r.arcs q.1 t=true/\(aW r q t).2=p
 met:((nds.map λnd=>nd.map (·.2)).flatten).foldl c7 [0]=List.range ps.length
theorem pC {p:Pl} (h:∀t∈ts,cK r.arcs p.1 t=true->(aW r p t).2∈ps):br r ts (ps++e) p=br r ts ps p:=by
 unfold br;refine XS λt ht=>?_;obtain⟨ht,hm⟩:=QW.mp ht;rw[i6 (h t ht hm)]
variable {nds:List Nd}
theorem OuO.step (ok:RgOk r) (wt:Wt r ts) {x x':Sx} {nd:Nd} {p:Pl} (o:OuO r ts x nds) (hp:x.ps[nds.length]?=some p) (h:bM r p.2 way (bT r ts p) x []=.inr (x',nd)):OuO r ts x' (nds++[nd]):=by
 obtain⟨e,i⟩:=lC h;have hl:=(Qd.mp hp).1;have pm:=Qk hp;have ps:=i.ps;have old:∀j,j<x.ps.length->x'.ps[j]?=x.ps[j]?:=λj hj=>by rw[ps,QC hj]
 have st:∀t∈ts,cK r.arcs p.1 t=true->(aW r p t).2∈x'.ps/\dy r p.2 (aW r p t)=none:=λt ht hm=>by
  have:=i.odd (aW r p t) (Qm.mpr ⟨t,QW.mpr ⟨ht,hm⟩,rfl⟩);exact⟨this.2,this.1⟩
 have en:nd=br r ts x'.ps p:=by
  rw[i.node];unfold bT br;rw[List.nil_append,Q3];rfl
 refine⟨?_,i.l40 o.l40,?_,i.un o.nd,λq hq=>?_,λj q hj hq=>?_,λj q hq=>?_,?_⟩
 ·rw[ps,Qh,Qh,QP];omega
 ·rw[old 0 (by omega)];exact o.zero
 ·rw[ps]at hq;rcases Qz.mp hq with hq|hq
  ·exact o.ok q hq
  obtain⟨s,hs,rfl⟩:=i.new q hq;obtain⟨t,ht,rfl⟩:=Qm.mp hs;obtain⟨ht,hm⟩:=QW.mp ht;refine l7 (o.ok p pm) (Wt.ok ok wt ht) hm λz=>?_;have co:=(st t ht hm).2;unfold dy at co;rw[Qs z]at co
  split at co <;> cases co
 ·rw[Qh,QP]at hj;by_cases c:j<nds.length
  ·rw[old j (by omega)]at hq;obtain⟨h1,h2⟩:=o.node j q c hq;refine⟨?_,λt ht hm=>⟨by rw[ps];exact Xb _ (h2 t ht hm).1,(h2 t ht hm).2⟩⟩;rw[QC c,h1,ps,pC λt ht hm=>(h2 t ht hm).1]
  obtain rfl:j=nds.length:=by omega
  rw[old _ hl,hp]at hq;cases hq;exact⟨by rw[QK (Qg _),Nat.sub_self,en];rfl,st⟩
 ·by_cases c:j<x.ps.length
  ·rw[old j c]at hq;rcases o.from_ j q hq with h|⟨k,q',t,h1,h2,h3,h4⟩
   ·exact .inl h
   exact .inr ⟨k,q',t,h1,by rw[Qh];omega,by rw[old k (by omega)];exact h3,h4⟩
  rw[ps,QK (by omega)]at hq;obtain⟨s,hs,rfl⟩:=i.new q (Qk hq);obtain⟨t,ht,rfl⟩:=Qm.mp hs;obtain⟨ht,hm⟩:=QW.mp ht;exact .inr ⟨nds.length,p,t,by omega,by rw[Qh];simp,by rw[old _ hl];exact hp,ht,hm,rfl⟩
 have im:=i.met;rw[QI,List.flatten_append,List.foldl_append,o.met,<-im,en];unfold br bT;rw[Q3];simp[Function.comp_def]
theorem qU {r:Rg} {ts:List Tu} (ok:RgOk r) (wt:Wt r ts):∀{f:Nat} {x:Sx} {nds nds':List Nd},OuO r ts x nds->outer r ts f x nds=.sheet nds'->∃ps,ShtP r ts ps nds'
 | 0,x,nds,nds',o,h=>by unfold outer at h;cases h
 | f+1,x,nds,nds',o,h=>by
  unfold outer at h;by_cases c:nds.length<x.ps.length
  ·rw[Qs c]at h;have gp:=Sx.p_mem c
   cases e:bM r (x.p nds.length).2 (x.wy nds.length) (bT r ts (x.p nds.length)) x [] with
   | inl res =>
    rw[e]at h;dsimp only at h;rw[h]at e;exfalso;exact inner_ns e
   | inr q =>
   obtain⟨x',nd⟩:=q;rw[e]at h;dsimp only at h;exact qU ok wt (o.step ok wt gp e) h
  rw[Qo c]at h;cases h;have le:=o.le;have l:x.ps.length=nds.length:=by omega
  refine⟨x.ps,l,o.l40,o.zero,o.nd,o.ok,λi p hp=>(o.node i p (by have:=(Qd.mp hp).1;omega) hp).1,λp hp=>?_,λj p hj=>?_,o.met⟩
  ·obtain⟨i,hi⟩:=List.getElem?_of_mem hp;exact(o.node i p (by have:=(Qd.mp hi).1;omega) hi).2
  rcases o.from_ j p hj with h|⟨i,q,t,h1,_,h2⟩
  ·exact .inl h
  exact .inr ⟨i,q,t,h1,h2⟩
where
 inner_ns {r:Rg} {row:Str} {way:List Tu}:∀{ss:List Sp1} {x:Sx} {nd:Nd} {nds:List Nd},bM r row way ss x nd=.inl (.sheet nds)->False
 | [],x,nd,nds,h=>by unfold bM at h;cases h
 | s::ss,x,nd,nds,h=>by
  unfold bM at h
  cases co:dy r row s with
  | some w=>rw[co]at h;cases h
  | none =>
  rw[co]at h;dsimp only at h;by_cases c:s.2∈x.ps
  ·rw[Qs c]at h;exact inner_ns h
  rw[Qo c]at h;by_cases c40:x.ps.length=40
  ·rw[Qs c40]at h;cases h
  rw[Qo c40]at h;exact inner_ns h
theorem rN (ok:RgOk r) (wt:Wt r ts) (h:unf r ts=.sheet nds):∃ps,ShtP r ts ps nds:=by
 refine qU (x:=Sx.first r) (nds:=[]) ok wt ⟨QR _,(by decide:1<=40),rfl,QU.mpr ⟨by simp,.nil⟩,λp hp=>?_,λi p hi=>absurd hi (X8 _),λj p hj=>?_,rfl⟩ h
 ·cases Qy.mp hp;exact pE ok
 left
 have:=(Qd.mp hj).1;have:j<1:=this;omega
def eW (r:Rg) (nds:List Nd):Sh:=⟨r.ins,r.outs,r.z,nds⟩
theorem tX {nd:Nd} (h:lR H l nd):bF H l (dA nd):=by
 obtain⟨vs,e,p⟩:=h;refine⟨vs,e,?_⟩;unfold dA;refine bV (ag (λv q ⟨b,e1,e2⟩=>⟨b,e1,e2⟩) p)
theorem rY (h:A3 H0 H v r (.sheet nds)):∃a s li lo ln nas,v=.ref a/\H a=some (.tup [.str "sheet", .ref s])/\ShAt H s li lo ln nas (eW r nds)/\(li::lo::ln::nas).Nodup/\∀b∈li::lo::ln::nas,H0 b=none:=by
 obtain⟨a,s,li,lo,ln,nas,e,ha,hs,hi,ho,hn,pn,nd,new⟩:=h;exact⟨a,s,li,lo,ln,nas,e,ha,⟨hs,hi,ho,hn,ag (λ_ _ q=>tX q) pn⟩,nd,new⟩
section
variable {r:Rg} {ts:List Tu} {ps:List Pl} {nds:List Nd}
def vm (ps:List Pl) (i:Nat):Str:=(ps.getD i ([],Str.empty)).2
theorem iZ {i:Nat} {p:Pl} (h:ps[i]?=some p):vm ps i=p.2:=by unfold vm;rw[Qx,h];rfl
theorem ShtP.nodeAt (S:ShtP r ts ps nds) {i:Nat} {p:Pl} (h:ps[i]?=some p):(eW r nds).node i=br r ts ps p:=Sh.node_of (S.node i p h)
theorem ShtP.to_ (S:ShtP r ts ps nds) {p:Pl} (hp:p∈ps) {t:Tu} (ht:t∈ts) (hm:cK r.arcs p.1 t=true):ps[ps.idxOf (aW r p t).2]?=some (aW r p t).2:=by
 have m:=(S.mem p hp t ht hm).1;have hi:=QS m;rw[Qe hi];exact congrArg some (List.getElem_idxOf hi)
theorem ShtP.reach (S:ShtP r ts ps nds):∀i,i<ps.length->(eW r nds).R i:=by
 intro i
 induction i using Nat.strongRecOn with
 | ind i ih =>
 intro hi;rcases S.from_ i _ (Qe hi) with rfl|⟨k,q,t,hk,hq,ht,hm,e⟩
 ·exact Bf.Reach.start
 refine Bf.Reach.step (ih k hk (by omega)) ?_;show i∈((eW r nds).node k).map (·.2);rw[S.nodeAt hq];refine Qm.mpr ⟨(t.1,i),Qm.mpr ⟨t,QW.mpr ⟨ht,hm⟩,?_⟩,rfl⟩;rw[e,S.nd.idxOf_getElem i hi]
theorem ShtP.shok (S:ShtP r ts ps nds) (ok:RgOk r) (wt:Wt r ts):ShOk (eW r nds):=by
 have l40:=S.l40;have len:=S.len;have w5:=ok.w5;have z:=(Qd.mp S.zero).1
 have at_:∀node∈nds,∃p∈ps,node=br r ts ps p:=λnode hn=>by
  obtain⟨i,hi⟩:=List.getElem?_of_mem hn;have il:=(Qd.mp hi).1;have e:=S.node i _ (Qe (by omega));rw[hi]at e;exact⟨_,Q9 _,QF e⟩
 refine⟨ok.nd,ok.w1,show r.ws.length<=11 by omega,ok.st,show 1<=nds.length by omega,show nds.length<=100 by omega,λnode hn q hq=>?_,λnode hn q hq=>?_,λnode hn=>?_⟩
 ·obtain⟨p,hp,rfl⟩:=at_ node hn;obtain⟨t,ht,rfl⟩:=Qm.mp hq;exact(Wt.ok ok wt (QW.mp ht).1).1
 ·obtain⟨p,hp,rfl⟩:=at_ node hn;obtain⟨t,ht,rfl⟩:=Qm.mp hq;obtain⟨ht,hm⟩:=QW.mp ht;show _<nds.length;rw[<-len];exact QS (S.mem p hp t ht hm).1
 obtain⟨p,hp,rfl⟩:=at_ node hn;unfold br;rw[Qb];exact QJ (XU _ _) (QJ (Wt.few ok wt) (by decide))
theorem ShtP.lab (S:ShtP r ts ps nds) (ok:RgOk r) (wt:Wt r ts):Lab (eW r nds) (vm ps):=by
 refine⟨iZ S.zero,λi hi q hq=>?_⟩;have il:i<nds.length:=Sh.R_lt (S.shok ok wt) hi;have len:=S.len;have gp:=Qe (l:=ps) (i:=i) (by omega);rw[S.nodeAt gp]at hq;obtain⟨t,ht,rfl⟩:=Qm.mp hq;obtain⟨ht,hm⟩:=QW.mp ht;rw[iZ (S.to_ (Q9 _) ht hm),iZ gp];rfl
theorem mV {row:Str} {s:Sp1} (h:dy r row s=none):sgB row (r.ws.idxOf s.1.1)=!decide (s.1.2 = "+"):=by
 unfold dy at h
 split at h
 ·cases h
 next c =>
 cases a:sgB row (r.ws.idxOf s.1.1) <;> cases b:decide (s.1.2 = "+") <;> simp_all
theorem ShtP.names (S:ShtP r ts ps nds) (ok:RgOk r) (wt:Wt r ts) {p:Pl} (hp:p∈ps):((br r ts ps p).map (·.1)).Nodup:=by
 unfold br;rw[Q3];refine Xv.mpr ?_;refine List.Pairwise.imp_of_mem ?_ (wt.nd.filter _);intro a b ha hb ne e;obtain⟨ha,ma⟩:=QW.mp ha;obtain⟨hb,mb⟩:=QW.mp hb;have e:a.1=b.1:=e;have oa:=mV (S.mem p hp a ha ma).2;have ob:=mV (S.mem p hp b hb mb).2;have oa:sgB p.2 (r.ws.idxOf a.1)=!decide (a.2 = "+"):=oa;have ob:sgB p.2 (r.ws.idxOf b.1)=!decide (b.2 = "+"):=ob;rw[e,ob]at oa
 apply ne
 refine Prod.ext e ?_;rcases(Wt.ok ok wt ha).2 with h1|h1 <;> rcases(Wt.ok ok wt hb).2 with h2|h2 <;> rw[h1,h2]at oa ⊢ <;> first|rfl|(exfalso;revert oa;decide +kernel)
end
def jK:Sp:=λvs H Q _=>∃(ml l ta:Addr) (as:List V) (r:Rg) (ms:List Int) (t:Tu),vs=[.ref ml,.ref l,.ref ta]/\H ml=some (.lst (ms.map V.int))/\ArsA H l as r.arcs/\RgOk r/\MkOk r.arcs ms/\TuA H (.ref ta) t/\∀q H',aj H H'->H q=none->H' q=some (.lst ((dH r.arcs ms t).map V.int))->Q (.ref q) H'
section
theorem jv:FnScope ["marks", "arcs", "turn", "found", "mark", "arc"] ["marks", "arcs", "turn"] (au (top 43)):=by fin2
theorem ph {f:Addr} {fd:FuncData} (Fu:Fun K "_law_behind" "_law_behind" (top 43) f fd) (T:Txt K mg TT):FnOk P w K mg base CX0 2 f fd ["marks", "arcs", "turn"] jK:=by
 have S:=jv;refine Fu.ok S (by room) (λcdv A outer s H vs Q E hr h=>?_);obtain⟨ml,l,ta,as,r,ms,t,rfl,hml,at_,ok,mok,tu,k⟩:=h;have hu:=cV hr;refine'⟨?_,?bb,?_⟩
 case bb =>
  walk_at "b";exact aG 3 S.nd (pe_lst ac);walk_at "f";exact(ij (by rfl) T.n_zip (aa (pv 0) (aa (pv 1) ac ad) ad));exact(dQ rfl (aH (bB 4 S.nd) (aH (bB 5 S.nd) bL)));walk_at "p";exact(bZ (bO QE Q0 Q2 bt (pv 3) (aa (aO fU (aO cD (pv 4) (bp bN (by rfl) T.n_int Xo (aa (bn (gP hr.units) (am aA (pv 5) ae) (pv 2) (aF _)) ac))) (bp bN (by rfl) T.n_int Xo (aa (bn (gP hr.units) (am aA (pv 5) ae) (pv 2) (aF _)) ac))) ac)));exact(aD (pv 3))
 x_go;have arl:=ok.few;lk;refine⟨by simp[sizeLine],λF hF=>?_⟩;generalize hE:upd H F _=H1;obtain⟨S1,qF⟩:=ak hF hE;have at1:=at_.same S1;kt_k;lk;refine aY (aE rfl (aY (aE rfl (aZ ⟨ml,l,false,false,rfl,⟨_,SqL.of (S1 _ _ hml)⟩,⟨_,SqL.of at1.h⟩,?_⟩))));have arl2:=av at_.p;let I19:IvF:=λj U H2=>∃y4 y5,U=[some (.ref ml),some (.ref l),some (.ref ta),some (.ref F),y4,y5]/\aj H H2/\H2 F=some (.lst ((((ms.zip r.arcs).take j).map (mkL t)).map V.int));refine vO (xs:=ms.map V.int) (us:=as) (by rw[Qb,mok.len,arl2];exact Qg _) I19 ⟨_,_,rfl,S1,qF⟩ (λj U H2 _ ⟨_,_,_,S2,_⟩=>⟨SqL.of (S2 _ _ hml),SqL.of ((at_.same S2).h)⟩) (λj x u U H2 TA e1 e2 h hT=>?_) (λU H2 h=>?_)
 ·obtain⟨y4,y5,rfl,S2,qM⟩:=h;rw[Qp]at e1;obtain⟨m',em,rfl⟩:=Q8.mp e1;generalize hE:upd H2 TA _=H4;obtain⟨S4,q4⟩:=ak hT hE;have S24:=S2.trans S4;obtain⟨ar,ear,ia⟩:=paired_get (at_.same S24).p e2;obtain⟨cb,v1,v2,rfl,hcb,t1,t2⟩:=ia;have qM4:=S4 _ _ qM;have tu4:=tu.kt (aj.tups S24);have jl:=(Qd.mp em).1;refine⟨TA,_,rfl,SqT.of q4,rfl,_,_,rfl,az ⟨_,_,rfl,az ⟨rfl,?_⟩⟩⟩;lk;refine eJ t1 tu4 ?_;lk;refine eJ t2 tu4 ?_;lk;refine eQ qM4 (by rw[Qb,Qb,QO,List.length_zip];have:=mok.len;omega) ?_;refine⟨_,_,rfl,bu S24 hF,?_⟩;rw[af,XH,m_ em ear,QI,QI];rfl
 obtain⟨y4,y5,rfl,S2,qM⟩:=h;rw[Qb,QV (by rw[List.length_zip];exact Nat.min_le_left _ _),zi ok.arcs]at qM;lk;exact k F H2 S2 hF qM
end
theorem RgA.tk (tb:cX TL bo H) (k:Tk TL H H') (h:RgA H a li lo l vs r):RgA H' a li lo l vs r:=⟨k.tup tb _ _ h.ha,k.lst tb _ _ h.hi,k.lst tb _ _ h.ho,k.lst tb _ _ h.arcs.h,ag (λ_ _ q=>q.kt (k.tup tb)) h.arcs.p⟩
theorem ShAt.tk (tb:cX TL bo H) (k:Tk TL H H') (h:ShAt H a li lo ln nas s):ShAt H' a li lo ln nas s:=h.mono (k.lst tb) (k.tup tb)
theorem Dk.At.tk (tb:cX TL bo H) (k:Tk TL H H') (h:D.At H):D.At H':=let ⟨a,b,c,e,l⟩:=h;⟨a,b,c,k.lst tb _ _ e,l⟩
theorem zU (tb:cX TL bo H) (DA:D.At H) (k:Kp D' H H') (e:D.d=D'.d):cX TL bo H':=by
 have no:∀{b o},H b=some o->(∀xs,o≠.lst xs)->¬D'.own b:=λ{b o} h n z=>iS DA h (λxs q=>absurd q (n xs)) (show b=D.d by rw[e];exact z);rcases tb with h|⟨c,h,q⟩
 ·exact .inl (k.old _ _ h (no h λ_ z=>nomatch z))
 exact .inr ⟨c,k.old _ _ h (no h λ_ z=>nomatch z),k.old _ _ q (no q λ_ z=>nomatch z)⟩
theorem ig {K:PySem.W.Frag} {xs:List V} (h:SqL K H a xs) (k:∀o,H a=some o->H' a=some o):SqL K H' a xs:=by
 rcases h with h|h
 ·left
  rcases h with e|⟨o,e⟩
  ·exact .inl (k _ e)
  exact .inr ⟨o,k _ e⟩
 exact .inr h
theorem tY {K:PySem.W.Frag} {l:Lm} {xs:List V} (tb:cX T l H) (h:SqL K H a xs) (k:∀o,H a=some o->a≠T->H' a=some o):SqL K H' a xs:=by
 rcases h with h|h
 ·left
  rcases h with e|⟨o,e⟩
  ·exact .inl (k _ e (eT tb e λ_ z=>nomatch z))
  exact .inr ⟨o,k _ e (eT tb e λ_ z=>nomatch z)⟩
 exact .inr h
structure Kt (TL:Addr) (D:Dk) (H H':Hp):Prop where
 old:∀b o,H b=some o->¬D.own b->b≠TL->H' b=some o
 dk:D.At H'
 tab:cX TL bo H'
theorem Kt.le (a:Kt TL D H H') (l:D.n<=D'.n) (e:D.d=D'.d:=by rfl):Kt TL D' H H':=⟨λc o h n=>a.old c o h (by unfold Dk.own at n ⊢;rw[e];exact n),a.dk.le l e,a.tab⟩
theorem gf {α β γ:Type} {F:α->γ->Prop} {f:β->γ}:∀{vs:List α} {hs:List β},Paired F vs (hs.map f)->Paired (λv p=>F v (f p)) vs hs
 | [],[],_=>.nil
 | [],_::_,h=>by rw[Qw]at h;cases h
 | _::_,[],h=>by rw[List.map_nil]at h;cases h
 | _::_,_::_,h=>by rw[Qw]at h;cases h with|cons r t=>exact .cons r (gf t)
theorem Ae {nd:Nd} (p:Paired (λv (s:V × Key)=>∃b,v=.ref b/\H b=some (.tup [s.1,kV s.2])) vs (dA nd)):Paired (SgA H) vs nd :=
 ag (λv q ⟨b,e1,e2⟩=>⟨b,e1,e2⟩) (gf p)
theorem mX {nd:Nd} (p:Paired (SgA H) vs nd):Paired (tE H) vs (nd.map λp=>(p.1,V.int (p.2:Int))) :=
 bV (ag (λv q ⟨b,e1,e2⟩=>⟨b,e1,e2⟩) p)
theorem ShAt.nd {H:Hp} {a li lo ln:Addr} {nas:B3} {s:Sh} (h:ShAt H a li lo ln nas s) {i:Nat} {nd:Nd} (hi:s.nodes[i]?=some nd):∃na vs,(nas.map V.ref)[i]?=some (.ref na)/\H na=some (.lst vs)/\Paired (SgA H) vs nd:=by
 obtain⟨na,hna,vs,hv,pv⟩:=bg h.nodes hi;exact⟨na,vs,by rw[Qp,hna];rfl,hv,Ae pv⟩
theorem iK {k:Key}:∀{qs kvs:List (Key × V)},k∉qs.map (·.1)->aU (ca kvs qs) k=aU kvs k
 | [],kvs,_=>rfl
 | q::qs,kvs,h=>by
  rw[Qw,Qj,not_or]at h;show aU (ca (bv kvs q.1 q.2) qs) k=_;rw[iK h.2,cR,Qo h.1]
theorem jN {k:Key} {v:V}:∀{qs kvs:List (Key × V)},(qs.map (·.1)).Nodup->(k,v)∈qs->aU (ca kvs qs) k=some v
 | [],kvs,_,h=>by cases h
 | q::qs,kvs,n,h=>by
  rw[Qw,QU]at n;show aU (ca (bv kvs q.1 q.2) qs) k=_;rcases Qj.mp h with rfl|h
  ·rw[iK n.1,cR,Qs rfl]
  exact jN n.2 h
theorem u3 {nd:Nd} (n:(nd.map (·.1)).Nodup) (h:(x,i)∈nd):aU (ca [] (d4 (nd.map λp=>(p.1,V.int (p.2:Int))))) (Sum.inr x:Key)=some (.int (i:Int)):=by
 refine jN ?_ (Qm.mpr ⟨(x,.int i),Qm.mpr ⟨(x,i),h,rfl⟩,rfl⟩);unfold d4;rw[Q3,Q3];exact Xv.mpr ((Xv.mp n).imp λh e=>h (Sum.inr.inj e))
section
variable {K:PySem.W.Frag} {U:St} {H:Hp}
theorem nH {ta:TA} {Q:VK} (q:ta U H λvs H1=>∃l xs ps,vs=[.ref l]/\SqL K H1 l xs/\xs.length<10000/\Paired (tE H1) xs ps/\∀d,H1 d=none->Q (.ref d) (upd H1 d (.dK (ca [] (d4 ps))))):qr K ta U H Q:=q
theorem rj {td ty tx:TE} {Q:VK} (q:td U H λx H1=>∃a,x=.ref a/\IsD H1 a/\ty U H1 λy H2=>tx U H2 λz H3=>∃o,cF H3 a y o/\Q (o.getD z) H3):tQ td ty tx U H Q:=q
theorem vI {a b:Addr} {ns:List Str} {Q:VK} (h1:H a=some (.lst (ns.map V.str))) (h2:H b=some (.lst (ns.map V.str))) (q:Q (.bl false) H):oW K true (.ref a) (.ref b) H Q :=
 AO (SqL.of h1) (SqL.of h2) rfl (λj x y e1 e2=>by
  rw[e1]at e2;cases e2;obtain⟨z,_,e⟩:=Qm.mp (Qk e1)
  exact gy (by rw[<-e];rfl)) q
end
section
theorem mE:FnScope ["pool", "names", "turns", "order", "marks", "turn", "other", "pair", "odd", "first", "k", "name", "sign", "arcs", "at"] ["pool"] (au (top 42)):=by fin2
theorem wJ {f:Addr} {fd:FuncData} (Fu:Fun K "_law_ring" "_law_ring" (top 42) f fd) (T:Txt K mg TT) (f_law_take:Fn P w K mg base "_law_take" ["pool", "many"] 1 gF) (f_law_names:Fn P w K mg base "_law_names" ["pool", "many"] 2 l_) (f_law_order:Fn P w K mg base "_law_order" ["pool", "things"] 2 (qz K)) (f_law_arcs:Fn P w K mg base "_law_arcs" ["pool", "order", "names"] 2 ue):FnOk P w K mg base CX0 3 f fd ["pool"] t7:=by
 have S:=mE;refine Fu.ok S (by room) (λcdv A outer s H vs Q E hr h=>?_);obtain⟨D,rfl,DA,dn,k⟩:=h;have hu:=cV hr;refine'⟨?_,?bb,?_⟩
 case bb =>
  walk_at "b";exact aG 1 S.nd (aM f_law_names hr (aa (pv 0) (aa (aO cD ae (am aX (pe_lst (aa (aM f_law_take hr (aa (pv 0) (aa ae ac aP) ad)) (aa (aM f_law_take hr (aa (pv 0) (aa ae ac aP) ad)) ac se_call) se_call)) (aM f_law_take hr (aa (pv 0) (aa ae ac aP) ad)))) ac se_bin) ad));exact aG 2 S.nd (aO eD (dW "name" [] (bi (pv 1)) (λ_ _ _ _=>(pe_tup (aa (pv 0) (aa bj ac aP) ad)))) (dW "name" [] (bi (pv 1)) (λ_ _ _ _=>(pe_tup (aa (pv 0) (aa bj ac aP) ad)))));exact aG 3 S.nd (aM f_law_order hr (aa (pv 0) (aa (pv 2) ac ad) ad));exact aG 4 S.nd (aM f_law_arcs hr (aa (pv 0) (aa (pv 3) (aa (pv 1) ac ad) ad) ad));walk_at "f";exact(bi (pv 2));exact(bB 5 S.nd);walk_at "p";exact(aC (pf hr.units) (yZ (jQ (tgs:=["pair"]) (cap:=[("turn", 5)]) rfl ⟨rfl,rfl,rfl,rfl,rfl,rfl⟩ (uE (pv 4)) (λ_ _ _ _=>(bw (i:=0) (show List.Nodup [("pair" : Str),("turn" : Str)] by decide +kernel) rfl (by z_go))) (λ_ _ _ _=>(eY (aC (k6 (K:=K) rfl hr.units) (am (de (K:=K) rfl) (pv 0) ae) (pv 1) (aF _)))) (λ_ _ _ _=>(pv 0)))) (pe_lst ac) (aF _));exact aG 6 S.nd (am aX (pv 2) (aM f_law_take hr (aa (pv 0) (aa (aq ay (by rfl) T.n_len QL (aa (pv 2) ac ad)) ac se_call) ad)));exact(aC (gP hr.units) (pv 6) (pv 5) (aF _));exact aG 6 S.nd (pe_tup (aa (am aA (pv 5) ae) (aa (am dD bj (bp bN (by rfl) T.n_int Xo (aa (bn cC (am aA (pv 5) ae) bj (aF _)) ac))) ac)));exact(eB hu (pv 4) (pe_tup (aa (pv 6) (aa (pv 5) ac ad) ad)) (bp bN (by rfl) T.n_int Xo (aa (bn iR (bO QE Xk Xl (dh hr.units) (pv 3) (aa (pv 6) ac ad)) (bO QE Xk Xl (dh hr.units) (pv 3) (aa (pv 5) ac ad)) (aF _)) ac)) rfl);exact(aC cC (aM f_law_take hr (aa (pv 0) (aa ae ac aP) ad)) ae (aF _));exact aG 7 S.nd (am aX (aq (jk rfl hu) (by rfl) T.n_sorted PyProof.Rows.boot_sorted (aa (pv 4) ac ad)) (aM f_law_take hr (aa (pv 0) (aa (aq tm (by rfl) T.n_len QL (aa (pv 4) ac ad)) ac se_call) ad)));exact(eB hu (pv 4) (pv 7) (aO fU ae (dL hu (pv 4) (pv 7))) rfl);exact aG 8 S.nd (aM f_law_take hr (aa (pv 0) (aa (aO e_ ae (aq ay (by rfl) T.n_len QL (aa (pv 1) ac ad))) ac) ad));exact aG 9 S.nd bj;walk_at "f";exact(kY (by rfl) T.n_enumerate (aa (pv 1) ac ad));exact(dQ rfl (aH (bB 10 S.nd) (aH (bB 11 S.nd) bL)));walk_at "p";exact aG 12 S.nd (bp bN (by rfl) T.n_int Xo (aa (bn jU (bO QE Xk Xl (dh hr.units) (pv 3) (aa (pe_tup (aa (pv 11) (aa bj ac aP) ad)) ac se_tup)) (bO QE Xk Xl (dh hr.units) (pv 3) (aa (pe_tup (aa (pv 11) (aa bj ac aP) ad)) ac se_tup)) (aF _)) ac));exact aG 9 S.nd (aO bW (pv 9) (am dD bj (aO gO (aO cD (pv 12) (bp bN (by rfl) T.n_int Xo (aa (bn cC (pv 8) (pv 10) (aF _)) ac))) ae)));exact(mK (j:=13) S.nd rfl (by z_go) (tgs:=["pair"]) (cap:=[("marks", 4)]) rfl ⟨rfl,rfl,rfl,rfl,rfl,rfl⟩ (bi (aq (jk rfl hu) (by rfl) T.n_sorted PyProof.Rows.boot_sorted (aa (pv 4) ac ad))) (λ_ _ _ _=>(bw (i:=0) (show List.Nodup [("pair" : Str),("marks" : Str)] by decide +kernel) rfl (by z_go))) (λ_ _ _ _=>dS) (λ_ _ _ _=>(pe_tup (aa (am (de (K:=K) rfl) (pv 0) ae) (aa (am (de (K:=K) rfl) (pv 0) ae) (aa (dL hu (pv 1) (pv 0)) ac))))));exact aG 14 S.nd (aM f_law_take hr (aa (pv 0) (aa (aq (kj rfl) (by rfl) T.n_min PyProof.Rows.boot_min (aa ae (aa (aq ay (by rfl) T.n_len QL (aa (pv 1) ac ad)) ac se_call) aP)) ac se_call) ad));refine' aD ?e
  case e =>
   walk_at "q";exact(bU qH (pv 1) cB (cA (pv 14)));exact(bU qH (pv 1) (cA (pv 14)) cB);exact(pv 9);exact(pv 13)
 x_go;lk;refine bA (c:=0) (Kp.of DA (aj.refl H)) (by omega) (by omega) (by omega) λx1 H1 x10 x11 o1 kp1=>?_;lk;refine bA kp1 (by omega) (by omega) (by omega) λx2 H2 x20 x21 o2 kp2=>?_;lk;refine⟨by simp[sizeLine],λp0 hp0=>?_⟩;generalize hE:upd H2 p0 _=H3;obtain⟨S3,q3⟩:=ak hp0 hE;have np0:¬D.own p0:=aV (D:=D.more _) kp2.dk hp0;have kp3:=kp2.trans (Kp.of kp2.dk S3);lk;refine bA kp3 (by omega) (by omega) (by omega) λx3 H4 x30 x31 o4 kp4=>?_
 have ex:∃m:Int,atI [V.int x1,V.int x2] x3=some (.int m)/\0<=m/\m<=4:=by
  have:x3=0\/x3=1:=by omega
  rcases this with rfl|rfl
  ·exact⟨x1,rfl,x10,by omega⟩
  exact⟨x2,rfl,x20,by omega⟩
 obtain⟨m,em,m0,m4⟩:=ex;refine i_ixL (SqL.of (o4 _ _ q3 np0)) em ?_;lk;refine⟨D.more 3,(1+m).toNat,by rw[show (((1+m).toNat:Nat):Int)=1+m by omega];rfl,kp4.dk,by show D.n+3<50000;omega,by omega,by omega,λnl ws H5 kp5 hnl wl wnd wlow qn=>?_⟩;have kpa:Kp (D.more 203) H H5:=kp4.trans (kp5.le (Qg _));have nlH:H nl=none:=kp4.free hnl;clear hE q3 S3 o1 o2 o4 kp1 kp2 kp3 kp5;have w1:1<=ws.length:=by omega
 have w5:ws.length<=5:=by omega
 kt_k;kt_k;with_reducible refine s_asg ?_
 refine xr rfl qn (by omega) λtl tv H8 S58 htl qtl pt=>?_;have kp8:=kpa.trans (Kp.of kpa.dk S58);have htlH:H tl=none:=kpa.free htl;have tl_:=av pt;have atl:=tz ws;refine az ?_;lk;refine⟨D.more 203,tl,tv,rfl,kp8.dk,SqL.of qtl,by show D.n+203<50000;omega,by omega,λol ov H9 kp9 hol pm qol=>?_⟩;obtain⟨ots,pot,pmo⟩:=Ht.paired_perm pm pt;have no8:∀b,H b=none->¬D.own b:=λb hb=>aV DA hb;have kt9:bh H8 H9:=Kp.tups (D:=(D.more 203).more 100) (kp8.dk.le (QQ _ _)) kp9;have kpb:Kp (D.more 303) H H9:=kp8.trans (kp9.le (Qg _));have holH:H ol=none:=kp8.free hol;have po9:Paired (TuA H9) ov ots:=ag (λ_ _ h=>h.kt kt9) pot;have all:∀t,t∈ots↔dF ws t:=λt=>pmo.mem_iff.trans dY;have otl:ots.length=2*ws.length:=by rw[pmo.length_eq,atl]
 have qn9:=kp9.old _ _ (S58 _ _ qn) (no8 _ nlH);lk;refine⟨D.more 303,ol,nl,ov,ots,ws,rfl,kpb.dk,by show D.n+303<50000;omega,qol,po9,qn9,all,by omega,by omega,w5,λLm kvs H10 kp10 hLm md=>?_⟩;have kpc:Kp (D.more 373) H H10:=kpb.trans (kp10.le (Qg _));have hLmH:H Lm=none:=kpb.free hLm;have kt10:bh H9 H10:=Kp.tups (D:=(D.more 303).more 70) (kpb.dk.le (QQ _ _)) kp10
 have no:∀b∈[nl,tl,ol,Lm],¬D.own b:=λb hb=>by
  simp only[Qj,QA,Xj]at hb;rcases hb with rfl|rfl|rfl|rfl
  ·exact no8 _ nlH
  ·exact no8 _ htlH
  ·exact no8 _ holH
  exact no8 _ hLmH
 have ri:RI D H H10 nl tl ol Lm ws tv (d_ ws) ov ots kvs 52 373:=⟨kpc,kp10.old _ _ qn9 (no8 _ nlH),kp10.old _ _ (kp9.old _ _ qtl (no8 _ htlH)) (no8 _ htlH),ag (λ_ _ h=>(h.kt kt9).kt kt10) pt,kp10.old _ _ qol (no8 _ holH),ag (λ_ _ h=>h.kt kt10) po9,md⟩;clear kt10 kpc kp10 md po9 kt9 kpb kp9 kp8 S58 pot pm pt qtl qol qn9;lk;refine⟨tl,rfl,⟨_,SqL.of ri.tl⟩,?_⟩;let I20:IvF:=λi U H'=>∃kvs y5 y6,U=[some (.ref D.d),some (.ref nl),some (.ref tl),some (.ref ol),some (.ref Lm),y5,y6,none,none,none,none,none,none,none,none]/\RI D H H' nl tl ol Lm ws tv (d_ ws) ov ots kvs (52+i) (373+i)/\∀t∈(d_ ws).take i,∃p:Pr,tkR p∈kvs.map (·.1)/\p.2=t;refine cE (xs:=tv) I20 ⟨kvs,_,_,rfl,ri,λt h=>by simp at h⟩ (λi U H' _ ⟨_,_,_,_,ri,_⟩=>SqL.of ri.tl) (λi x U H' ex h=>?_) (λU H' h=>?_)
 ·obtain⟨kvs,y5,y6,rfl,ri,inc⟩:=h;obtain⟨t,et,tu⟩:=paired_get ri.tp ex;have tkt:dF ws t:=dY.mp (Qk et);have hi:=(Qd.mp ex).1;have kl:=ri.md.l
  have inc':∀kvs':List (aB × V),(∀k∈kvs.map (·.1),k∈kvs'.map (·.1))->(∃p:Pr,tkR p∈kvs'.map (·.1)/\p.2=t)->∀t∈(d_ ws).take (i+1),∃p:Pr,tkR p∈kvs'.map (·.1)/\p.2=t:=λkvs' sub new t' ht'=>by
   rw[XH,et]at ht';rcases Qz.mp ht' with h|h
   ·obtain⟨p,h1,h2⟩:=inc t' h;exact⟨p,sub _ h1,h2⟩
   have:t'=t:=by simpa using h
   rw[this];exact new
  refine az ?_;lk;refine⟨Lm,_,.inl ri.md.h,trivial,λo=>?_⟩;refine bC (aE rfl ⟨Lm,o,kvs,rfl,af,λLc hLc=>?_⟩)
  classical
  have ktz:bh H' (upd H' Lm (.frz o (.dT kvs))):=eG ri.md.h;refine xA (λkv=>decide (∃p:Pr,kv.1=tkR p/\p.2=t)) (λH v kv=>True) hLc af (by omega) (λ_ _ _ _ _ h=>h) (λkv b H2 mk tb S2 G N hG hN=>?_) (λH2 ys S2 hy pz=>?_)
  ·obtain⟨p,ek,pok,_⟩:=ri.md.ok kv mk;rw[ek]at tb;obtain⟨_,v1,v2,e,hb,h1,h2⟩:=PrA.of tb;cases e;refine az ⟨⟨rfl,trivial⟩,?_⟩;lk;refine eJ h2 ((tu.kt ktz).kt (aj.tups S2)) ⟨_,rfl,?_⟩;by_cases ce:p.2=t
   ·refine ifT (Qv ce) ?_;lk;exact hG (Qv ⟨p,ek,ce⟩) _ H2 (aj.refl _) trivial
   exact ifF (Qu ce) (hN (Qu λ⟨q,e1,e2⟩=>ce (by rw[kH (ek.symm.trans e1)];exact e2)) H2 (aj.refl _))
  have ncm:Lc≠Lm:=λz=>by rw[z,af]at hLc;cases hLc
  refine⟨S2 _ _ af,qL (by rw[bJ ncm];exact hy) λH3 S3=>?_⟩;have ri3:=ri.same ((jL S2).trans S3);have tu3:=tu.kt (aj.tups ((jL S2).trans S3));by_cases c0:ys.length=0
  ·refine ifT (Qv c0) ?_;have tl3:=ri3.tl;lk;refine bA ri3.kp (by omega) (by omega) (by omega) λr H4 r0 r1 o4 kp4=>?_;have ri4:=ri3.draw no o4 kp4;have tu4:=tu3.kt (ri3.kp.kt o4);obtain⟨v6,e6,hv6⟩:=lL (xs:=tv) (i:=r) (by omega) r1;obtain⟨t6,ht6,tu6⟩:=dX ri4.tp hv6;refine i_ixL (SqL.of ri4.tl) e6 ?_;refine az ?_;obtain⟨ta,rfl,hta⟩:=id tu4;let I21:IvJ:=λU G=>∃vo to,U=[some (.ref D.d),some (.ref nl),some (.ref tl),some (.ref ol),some (.ref Lm),some (.ref ta),some vo,none,none,none,none,none,none,none,none]/\aj H4 G/\TuA G vo to/\dF ws to/\to≠t;with_reducible refine cT I21 (λRR hJ=>?_) (λU G h=>?_)
   ·lk;refine eJ tu6 tu4 ⟨_,rfl,?_⟩;by_cases ce:t6=t
    ·refine ifT (Qv ce) ?_;lk;obtain⟨c,ec,ec2⟩:=zb tkt.2;refine ff (by decide) ec ?_;rw[ec2];lk;refine⟨by simp[sizeLine],λp5 h5=>?_⟩;exact hJ _ _ ⟨_,_,rfl,aw h5,⟨p5,rfl,af⟩,za tkt⟩
    exact ifF (Qu ce) (s_next (hJ _ _ ⟨_,_,rfl,aj.refl _,tu6,dY.mp ht6,ce⟩))
   obtain⟨vo,to,rfl,SG,tuo,tko,ne⟩:=h;have riG:=ri4.same SG;have tuG:=tu4.kt (aj.tups SG);have olG:=riG.ol;refine fT ?_;lk;refine di olG riG.op tuo ((all _).mpr tko) ?_;lk;refine di olG riG.op tuG ((all _).mpr tkt) ?_;lk;refine⟨by simp[sizeLine],λp3 h3=>?_⟩;have hm:=bit (decide (((ots.idxOf t:Nat):Int)<(ots.idxOf to:Nat)));generalize (if (decide (((ots.idxOf t:Nat):Int)<(ots.idxOf to:Nat)))=true then (1:Int) else 0)=m at hm ⊢;generalize hE:upd G p3 _=H5;obtain⟨S5,q5⟩:=ak h3 hE;have pa5:PrA H5 (.ref p3) (to,t):=⟨p3,_,_,rfl,q5,tuo.kt (aj.tups S5),tuG.kt (aj.tups S5)⟩;have ri5:=riG.same S5;refine⟨Lm,_,rfl,gD.t ri5.md.h pa5.tk (by omega),?_⟩;have d:=ri5.md.put (H':=upd H5 Lm (.dT (bv kvs (tkR (to,t)) (.int m)))) (p:=(to,t)) (m:=m) ⟨tko,tkt,ne⟩ hm af;refine⟨_,_,_,rfl,ri5.set DA hLmH d,inc' _ (λk hk=>?_) ⟨(to,t),?_,rfl⟩⟩
   ·rcases dZ kvs (tkR (to,t)) (.int m) with⟨_,e⟩|⟨_,e⟩
    ·rw[e];exact hk
    rw[e];exact Xb _ hk
   rcases dZ kvs (tkR (to,t)) (.int m) with⟨h,e⟩|⟨_,e⟩
   ·rw[e];exact h
   rw[e];exact QH _ (List.mem_singleton_self _)
  refine ifF (Qu c0) (s_next ⟨kvs,_,_,rfl,ri3.up (by omega) (by omega),inc' kvs (λ_ h=>h) ?_⟩);have pl:=av pz
  cases hf:kvs.filter λkv=>decide (∃p:Pr,kv.1=tkR p/\p.2=t) with
  | nil=>rw[hf]at pl;exact absurd pl c0
  | cons kv r =>
  have:kv∈kvs.filter λkv=>decide (∃p:Pr,kv.1=tkR p/\p.2=t):=by rw[hf];simp
  obtain⟨m1,m2⟩:=QW.mp this;obtain⟨p,e1,e2⟩:=Xu m2;exact⟨p,Qm.mpr ⟨kv,m1,e1⟩,e2⟩
 obtain⟨kvs,y5,y6,rfl,ri,inc⟩:=h;rw[QV (Nat.le_of_eq tl_.symm)]at inc;have ri:=ri.up (n':=62) (c':=383) (by omega) (by omega)
 have kpos:∀kvs:List (aB × V),(∀t∈d_ ws,∃p:Pr,tkR p∈kvs.map (·.1)/\p.2=t)->1<=kvs.length:=λkvs inc=>by
  cases ws with
  | nil=>simp at w1
  | cons n ws =>
  obtain⟨p,hp,_⟩:=inc (n, "+") (dY.mpr ⟨by simp,.inl rfl⟩);have:=List.length_pos_of_mem hp;rwa [Qb]at this
 let I22:IvJ:=λU G=>∃kvs y7,U=[some (.ref D.d),some (.ref nl),some (.ref tl),some (.ref ol),some (.ref Lm),y5,y6,y7,none,none,none,none,none,none,none]/\RI D H G nl tl ol Lm ws tv (d_ ws) ov ots kvs 62 390/\∀t∈d_ ws,∃p:Pr,tkR p∈kvs.map (·.1)/\p.2=t;with_reducible refine cT I22 (λRR hJ=>?_) (λU G h=>?_)
 ·lk;refine bA ri.kp (by omega) (by omega) (by omega) λr H2 r0 r1 o2 kp2=>?_;have ri2:=ri.draw no o2 kp2;lk;cases decide (V.int r=V.int 0)
  ·exact iteF (s_next (hJ _ _ ⟨kvs,_,rfl,ri2.up (by omega) (by omega),inc⟩))
  refine cu ?_;lk;refine ri2.md.sort (by decide) λp vs ps hp pp pm so=>?_;generalize hE:upd H2 p _=H3;obtain⟨S3,q3⟩:=ak hp hE;have ri3:=ri2.same S3;have np:¬D.own p:=aV (D:=D.more _) ri2.kp.dk hp;have kl:=ri3.md.l;have kp1:=kpos kvs inc
  have vl:vs.length=kvs.length:=by
   have:=pm.length_eq;rw[Qb,Qb]at this;rw[av pp,this]
  lk;refine⟨Lm,kvs,rfl,ri3.md.h,?_⟩;lk;refine bA ri3.kp (by omega) (by omega) (by omega) λr H4 r0 r1 o4 kp4=>?_;have ri4:=ri3.draw no o4 kp4;obtain⟨v7,e7,hv7⟩:=lL (xs:=vs) (i:=r) (by omega) (by omega);obtain⟨pr,hpr,pa⟩:=dX pp hv7;refine i_ixL (SqL.of (o4 _ _ q3 np)) e7 ?_;have pa4:=(pa.kt (aj.tups S3)).kt (ri3.kp.kt o4);obtain⟨b7,_,_,rfl,_⟩:=id pa4;have hk:tkR pr∈kvs.map (·.1):=pm.mem_iff.mp (Qm.mpr ⟨pr,hpr,rfl⟩);obtain⟨pok,m,ev,hm⟩:=ri4.md.val hk;refine az ?_;with_reducible refine fT ?_
  lk;refine⟨Lm,_,rfl,by have z:=cF.t ri4.md.h pa4.tk;rw[ev]at z;exact z,?_⟩;lk;refine⟨Lm,_,rfl,gD.t ri4.md.h pa4.tk (by omega),?_⟩;have d:=ri4.md.set (H':=upd H4 Lm (.dT (bv kvs (tkR pr) (.int (1-m))))) (p:=pr) (m:=1-m) hk pok (by omega) af;refine hJ _ _ ⟨_,_,rfl,(ri4.set DA hLmH d).up (by omega) (by omega),λt ht=>?_⟩;obtain⟨q,h1,h2⟩:=inc t ht;refine⟨q,?_,h2⟩;rcases dZ kvs (tkR pr) (.int (1-m)) with⟨_,e⟩|⟨_,e⟩
  ·rw[e];exact h1
  rw[e];exact Xb _ h1
 obtain⟨kvs,y7,rfl,ri,inc⟩:=h;have nl3:=ri.nl;lk;rw[Qb];refine bA ri.kp (by omega) (by omega) (by omega) λod H2 r0 r1 o2 kp2=>?_;have ri:=ri.draw no o2 kp2;have nl3:=ri.nl;lk;refine aY (aE rfl (aZ ⟨nl,rfl,⟨_,SqL.of nl3⟩,?_⟩));let I23:IvF:=λi U H'=>∃z y10 y11 y12,U=[some (.ref D.d),some (.ref nl),some (.ref tl),some (.ref ol),some (.ref Lm),y5,y6,y7,some (.int od),some (.str z),y10,y11,y12,none,none]/\RI D H H' nl tl ol Lm ws tv (d_ ws) ov ots kvs 62 391/\StOk i z;refine i8 (xs:=ws.map V.str) I23 ⟨_,_,_,_,rfl,ri,⟨rfl,λc hc=>nomatch hc⟩⟩ (λi U H' _ ⟨_,_,_,_,_,ri,_⟩=>SqL.of ri.nl) (λi x U H' TA ex h hT=>?_) (λU H' h=>?_)
 ·obtain⟨z,y10,y11,y12,rfl,ri,st⟩:=h;have hi:=(Qd.mp ex).1;rw[Qp]at ex;obtain⟨n,en,rfl⟩:=Q8.mp ex;have mn:=Qk en;generalize hE:upd H' TA _=H2;obtain⟨S2,q2⟩:=ak hT hE;have ri2:=ri.same S2;have ol2:=ri2.ol;refine⟨TA,_,rfl,SqT.of q2,rfl,_,_,rfl,az ⟨_,_,rfl,az ⟨rfl,?_⟩⟩⟩;lk;refine⟨by simp[sizeLine],λp3 h3=>?_⟩;generalize hE:upd H2 p3 _=H3;obtain⟨S3,q3⟩:=ak h3 hE;have ri3:=ri2.same S3;have ol3:=ri3.ol;lk;refine di (t:=(n, "-")) ol3 ri3.op ⟨p3,rfl,q3⟩ ((all _).mpr ⟨mn,.inr rfl⟩) ?_;lk;refine⟨by simp[sizeLine],λp4 h4=>?_⟩;generalize hE:upd H3 p4 _=H4;obtain⟨S4,q4⟩:=ak h4 hE;have ri4:=ri3.same S4;lk;refine di (t:=(n, "+")) ri4.ol ri4.op ⟨p4,rfl,q4⟩ ((all _).mpr ⟨mn,.inl rfl⟩) ?_;lk;obtain⟨c,ec,hc⟩:=Bi (_+_);refine ff (by decide) ec ?_;have zl:z.length=i:=st.len;rw[Qb]at hi;refine⟨z,_,rfl,rfl,by show z.length+1<=_;omega,?_⟩;exact⟨_,_,_,_,rfl,ri4,wm st hc⟩
 obtain⟨z,y10,y11,y12,rfl,ri,st⟩:=h;rw[Qb]at st;lk;refine bC (s_list (i_cb (aY (aE rfl (aZ (ri.md.sort (by decide) λp vs ps hp pp pm so=>?_))))));generalize hE:upd H' p _=H2;obtain⟨S2,q2⟩:=ak hp hE;have ri2:=ri.same S2;refine⟨p,rfl,⟨_,SqL.of q2⟩,λLa hLa=>?_⟩
 have pl:ps.length<=62:=by
  have:=pm.length_eq;have:=ri.md.l;simp only[Qb] at *;omega
 have hk:∀x∈ps,tkR x∈kvs.map (·.1):=λx hx=>pm.mem_iff.mp (Qm.mpr ⟨x,hx,rfl⟩);refine eK (λ_=>true) (λH v x=>ArA H v (oq kvs x)) hLa q2 pp (by omega) (λH H' v x k h=>h.kt k) (λv x H3 pa mx S3 G N hG _=>?_) (λH3 ys S3 hy py=>?_)
 ·obtain⟨b,v1,v2,rfl,hb,t1,t2⟩:=pa.kt (aj.tups (S2.trans S3));have ri3:=ri2.same S3;obtain⟨pok,ev,hm⟩:=m5 ri3.md (hk x mx);have pa3:PrA H3 (.ref b) x:=⟨b,v1,v2,rfl,hb,t1,t2⟩;refine az ⟨⟨rfl,trivial⟩,i_yes (cu ?_)⟩;lk;refine⟨Lm,_,rfl,by have z:=cF.t ri3.md.h pa3.tk;rw[ev]at z;exact z,?_⟩;lk;refine⟨by simp[sizeLine],λp4 h4=>?_⟩;have S4:=aw (o:=.tup [v1,v2,.int (pF kvs x)]) h4;exact hG rfl _ _ S4 ⟨p4,_,_,rfl,af,t1.kt (aj.tups S4),t2.kt (aj.tups S4)⟩
 rw[cN]at py;have py:=bV (f:=oq kvs) py;have ri3:=ri2.same S3;have hLaH:H La=none:=ri2.kp.free hLa;have nl3:=ri3.nl;lk;refine⟨5,_,rfl,?_⟩;rw[Qb];lk;refine bA ri3.kp (by omega) (by split <;> omega) (by split <;> omega) λr H4 r0 r1 o4 kp4=>?_;have ri4:=ri3.draw no o4 kp4
 have rl:r.toNat<ws.length:=by
  have:r<ws.length:=by
   split at r1 <;> omega
  omega
 obtain⟨j,rfl⟩:∃j:Nat,r=(j:Int):=⟨r.toNat,by omega⟩;rw[Q7]at rl;have nl4:=ri4.nl;have hya:=o4 _ _ hy (no8 _ hLaH);have py4:=ag (λ_ _ h=>ArA.kt (ri3.kp.kt o4) h) py;lk;refine yn (SqL.of nl4) λli hli=>?_;rw[zI (by rw[Qb];omega),<-List.map_take];generalize hE:upd H4 li _=H5;obtain⟨S5,q5⟩:=ak hli hE;have nl5:=S5 _ _ nl4;lk;refine yn (SqL.of nl5) λlo hlo=>?_;rw[vY (by rw[Qb];omega),<-List.map_drop];generalize hE:upd H5 lo _=H6;obtain⟨S6,q6⟩:=ak hlo hE;lk;refine⟨by simp[sizeLine],λa h7=>?_⟩;generalize hE:upd H6 a _=H7;obtain⟨S7,q7⟩:=ak h7 hE;have S47:=(S5.trans S6).trans S7;have kp7:=kp4.trans (Kp.of kp4.dk S47);have ews:(⟨ws.take j,ws.drop j,z,ps.map (oq kvs)⟩:Rg).ws=ws:=X6 _ _;refine k a li lo La ys ⟨ws.take j,ws.drop j,z,ps.map (oq kvs)⟩ H7 (kp7.up (by omega)) (λb hb=>?_) ⟨q7,S7 _ _ (S6 _ _ q5),S7 _ _ q6,S47 _ _ hya,ag (λ_ _ h=>h.kt (aj.tups S47)) py4⟩ ⟨?_,?_,?_,?_,?_,?_⟩ ?_ ⟨?_,?_,?_⟩
 ·simp only[Qj,QA,Xj]at hb;rcases hb with rfl|rfl|rfl|rfl
  ·exact kp4.free (bP (S5.trans S6) h7)
  ·exact kp4.free hli
  ·exact kp4.free (bP S5 hlo)
  exact hLaH
 ·rw[ews];exact wnd
 ·rw[ews];exact w1
 ·rw[ews];exact w5
 ·rw[ews];exact st
 ·show (ps.map _).length<=_;rw[Qb];omega
 ·rw[ews];intro x hx;obtain⟨q,hq,rfl⟩:=Qm.mp hx;obtain⟨pok,_,hm⟩:=m5 ri.md (hk q hq);exact⟨pok.o,pok.t,pok.ne,hm⟩
 ·intro t ht;rw[ews]at ht;obtain⟨q,h1,h2⟩:=inc t (dY.mpr ht);obtain⟨q',hq',e⟩:=Qm.mp (pm.mem_iff.mpr h1);exact⟨oq kvs q',Qm.mpr ⟨q',hq',rfl⟩,by rw[<-kH e]at h2;exact h2⟩
 ·rw[ews];exact wlow
 ·show (ws.take j).length<=4;rw[QO];omega
 show 1<=(ws.drop j).length;rw[XG];omega
end
theorem f_ (st:StOk n z) (hi:i<n) (hj:j<n):sgB (b_ z i) j=if j=i then !sgB z j else sgB z j:=by
 have hl:=st.len;have e:=turn_list st hi;have g:∀(w:Str) k,w.cps.getD k 0=w.cps.toList.getD k 0:=λw k=>by simp[Xe,Qx]
 unfold sgB;rw[g (b_ z i),g z,e];have zl:z.cps.toList.length=n:=by simpa using hl
 by_cases c:j=i
 ·subst c;rw[Qs rfl,Qx,QK (by rw[QO];omega),QO,Nat.min_eq_left (by omega),Nat.sub_self,List.getElem?_cons_zero,Option.getD_some,g z];cases q:(z.cps.toList.getD j 0==49) <;> rfl
 rw[Qo c];by_cases l:j<i
 ·rw[Qx,QC (by rw[QO];omega),List.getElem?_take_of_lt l,<-Qx]
 rw[Qx,QK (by rw[QO];omega),QO,Nat.min_eq_left (by omega)];obtain⟨k,hk⟩:∃k,j-i=k+1:=⟨j-i-1,by omega⟩;rw[hk,List.getElem?_cons_succ,List.getElem?_drop,show i+1+k=j by omega,<-Qx]
theorem wo (hy:StOk n y) (hz:StOk n z) (h:∀i,i<n->sgB y i=sgB z i):y=z:=by
 have ly:=hy.len;have lz:=hz.len
 have e:y.cps=z.cps:=by
  refine Array.ext (ly.trans lz.symm) λi h1 h2=>?_;have:=h i (by omega);unfold sgB at this;have g1:y.cps.getD i 0=y.cps[i]:=by simp[Array.getD,h1]
  have g2:z.cps.getD i 0=z.cps[i]:=by simp[Array.getD,h2]
  rw[g1,g2]at this;rcases hy.signs _ (Array.getElem_mem_toList h1) with a|a <;> rcases hz.signs _ (Array.getElem_mem_toList h2) with b|b <;> rw[a,b]at this ⊢ <;> simp at this
 cases y;cases z;cases e;rfl
theorem rR (st:StOk n z) (hi:i<n) (hj:j<n):b_ (b_ z i) j=b_ (b_ z j) i:=by
 refine wo (dJ (dJ st hi) hj) (dJ (dJ st hj) hi) λk hk=>?_;rw[f_ (dJ st hi) hj hk,f_ (dJ st hj) hi hk,f_ st hi hk,f_ st hj hk];by_cases a:k=i
 ·subst a;by_cases b:k=j
  ·rw[Qs rfl,Qs b,Qs b,Qs rfl]
  rw[Qs rfl,Qo b,Qo b,Qs rfl]
 by_cases b:k=j
 ·rw[Qs b,Qo a,Qo a,Qs b]
 rw[Qo b,Qo a,Qo a,Qo b]
theorem qi (as:List Arc) (t:Tu):∀(ms:List Int),as.zip (dH as ms t)=(as.zip ms).map λq=>(q.1,mkB q.1 q.2 t):=by
 induction as with
 | nil=>intro ms;rfl
 | cons a as ih =>
 intro ms
 cases ms with
 | nil=>rfl
 | cons m ms =>
 show (a,mkB a m t)::as.zip (dH as ms t)=_;rw[ih];rfl
def mkD (a:Arc) (t:Tu):Int:=if a.one=t then 1 else if a.two=t then -1 else 0
theorem yj (a:Arc) (m:Int) (t:Tu):mkB a m t=m+mkD a t:=by
 unfold mkB mkD;by_cases c:a.one=t
 ·rw[Qs c,Qs c]
 rw[Qo c,Qo c];by_cases d:a.two=t
 ·rw[Qs d,Qs d];omega
 rw[Qo d,Qo d];omega
theorem u9 (as:List Arc) (ms:List Int) (t u:Tu):dH as (dH as ms t) u=dH as (dH as ms u) t:=by
 have e:∀t u,dH as (dH as ms t) u=(as.zip ms).map λq=>q.2+mkD q.1 t+mkD q.1 u:=λt u=>by
  show (as.zip (dH as ms t)).map (λq=>mkB q.1 q.2 u)=_;rw[qi,Q3];refine XS λq _=>?_;show mkB q.1 (mkB q.1 q.2 t) u=_;rw[yj,yj]
 rw[e,e];refine XS λq _=>?_;omega
theorem nc {t u:Tu} (h:cK as ms u=true) (ne:t≠u):cK as (dH as ms t) u=true:=by
 unfold cK at h ⊢;rw[qi,List.all_map];refine QT.mpr λq hq=>?_;have:=QT.mp h q hq;show (!decide (q.1.two=u) || decide (0<mkB q.1 q.2 t))=true;by_cases c:q.1.two=u
 ·rw[Qv c,X1,Bool.false_or,decide_eq_true_eq]at this ⊢;unfold mkB;by_cases d:q.1.one=t
  ·rw[Qs d];omega
  rw[Qo d,Qo (λz=>ne (z.symm.trans c))];exact this
 rw[Qu c];rfl
theorem rV {p:Pl} (po:PlOk r p) {t u:Tu} (ht:dF r.ws t) (hu:dF r.ws u):(aW r (aW r p t).2 u).2=(aW r (aW r p u).2 t).2 :=
 Prod.ext (u9 _ _ _ _) (rR po.z (QS ht.1) (QS hu.1))
section
variable {r:Rg} {ts:List Tu} {ps:List Pl} {nds:List Nd}
theorem ShtP.two (S:ShtP r ts ps nds) (ok:RgOk r) (wt:Wt r ts) {p:Pl} (hp:p∈ps) {t u:Tu} (ht:t∈ts) (mt:cK r.arcs p.1 t=true) (hu:u∈ts) (mu:cK r.arcs p.1 u=true) (ne:u≠t) :
  (u.1,ps.idxOf (aW r (aW r p t).2 u).2)∈br r ts ps (aW r p t).2/\(t.1,ps.idxOf (aW r (aW r p t).2 u).2)∈br r ts ps (aW r p u).2:=by
 refine⟨Qm.mpr ⟨u,QW.mpr ⟨hu,nc mu (Ne.symm ne)⟩,rfl⟩,?_⟩;rw[rV (S.ok p hp) (Wt.ok ok wt ht) (Wt.ok ok wt hu)];exact Qm.mpr ⟨t,QW.mpr ⟨ht,nc mt ne⟩,rfl⟩
end
def plB (r:Rg) (w:List Tu):Pl:=w.foldl (λp t=>(aW r p t).2) (mks r.arcs,r.z)
theorem mM (r:Rg) (w:List Tu) (t:Tu):plB r (w++[t])=(aW r (plB r w) t).2:=by unfold plB;rw[List.foldl_append];rfl
structure MayOk (r:Rg) (ts:List Tu) (p:Pl) (t:Tu):Prop where
 mt:t∈ts
 ok:PlOk r p
 may:cK r.arcs p.1 t=true
def tD (r:Rg) (ts:List Tu) (w:List Tu):Prop:=∀k t,w[k]?=some t->MayOk r ts (plB r (w.take k)) t/\dy r (plB r (w.take k)).2 (aW r (plB r (w.take k)) t)=none
theorem tD.snoc {w:List Tu} {t:Tu} (h:tD r ts w) (m:MayOk r ts (plB r w) t) (o:dy r (plB r w).2 (aW r (plB r w) t)=none):tD r ts (w++[t]):=λk u hk=>by
 by_cases c:k<w.length
 ·rw[QC c]at hk;rw[List.take_append_of_le_length (X7 c)];exact h k u hk
 have hl:=(Qd.mp hk).1;rw[Qh,QP]at hl;obtain rfl:k=w.length:=by omega
 rw[QK (Qg _),Nat.sub_self]at hk;cases hk;rw[List.take_append_of_le_length (Qg _),List.take_length];exact⟨m,o⟩
structure WsOk (r:Rg) (ts:List Tu) (x:Sx):Prop where
 l:x.ws.length=x.ps.length
 n:∀w∈x.ws,w.length<x.ws.length
 w:∀(i:Nat) (w:List Tu),x.ws[i]?=some w->x.ps[i]?=some (plB r w)/\tD r ts w
structure OddOk (r:Rg) (ts:List Tu) (w:List Tu) (t:Tu) (wd:Str):Prop where
 wy:tD r ts w
 m:MayOk r ts (plB r w) t
 o:dy r (plB r w).2 (aW r (plB r w) t)=some wd
theorem j_ {r:Rg} {row:Str} {way:List Tu}:∀{ss:List Sp1} {x:Sx} {nd:Nd} {w:List Tu} {wd:Str},bM r row way ss x nd=.inl (.odd w wd)->∃s∈ss,w=way++[s.1]/\dy r row s=some wd
 | [],x,nd,w,wd,h=>by unfold bM at h;cases h
 | s::ss,x,nd,w,wd,h=>by
  unfold bM at h
  cases co:dy r row s with
  | some w' =>
   rw[co]at h;cases h;exact⟨s,by simp,rfl,co⟩
  | none =>
  rw[co]at h;dsimp only at h
  have go:∀{x nd},bM r row way ss x nd=.inl (.odd w wd)->∃s'∈s::ss,w=way++[s'.1]/\dy r row s'=some wd:=λq=>by
   obtain⟨s',hs,e⟩:=j_ q;exact⟨s',Qn _ hs,e⟩
  by_cases c:s.2∈x.ps
  ·rw[Qs c]at h;exact go h
  rw[Qo c]at h;by_cases c40:x.ps.length=40
  ·rw[Qs c40]at h;cases h
  rw[Qo c40]at h;exact go h
theorem i5 {r:Rg} {ts:List Tu} {way:List Tu} (hw:tD r ts way):∀{ss:List Sp1} {x x':Sx} {nd nd':Nd},way.length<x.ws.length->(∀s∈ss,∃t,s=aW r (plB r way) t/\MayOk r ts (plB r way) t)->WsOk r ts x->bM r (plB r way).2 way ss x nd=.inr (x',nd')->WsOk r ts x'
 | [],x,x',nd,nd',hl,hs,o,h=>by unfold bM at h;cases h;exact o
 | s::ss,x,x',nd,nd',hl,hs,o,h=>by
  unfold bM at h;have hs':∀s∈ss,∃t,s=aW r (plB r way) t/\MayOk r ts (plB r way) t:=λs h=>hs s (Qn _ h)
  cases co:dy r (plB r way).2 s with
  | some w'=>rw[co]at h;cases h
  | none =>
  rw[co]at h;dsimp only at h;by_cases c:s.2∈x.ps
  ·rw[Qs c]at h;exact i5 hw hl hs' o h
  rw[Qo c]at h;by_cases c40:x.ps.length=40
  ·rw[Qs c40]at h;cases h
  rw[Qo c40]at h;refine i5 hw (by show _<(x.ws++[_]).length;rw[Qh];omega) hs' ⟨?_,λw hw'=>?_,λi w hi=>?_⟩ h
  ·show (x.ws++[_]).length=(x.ps++[_]).length;rw[Qh,Qh,o.l];rfl
  ·show _<(x.ws++[_]).length;rw[Qh,QP];rcases Qz.mp hw' with h|h
   ·have:=o.n w h;omega
   rw[Qy.mp h,Qh,QP];omega
  have hi:(x.ws++[way++[s.1]])[i]?=some w:=hi;show (x.ps++[s.2])[i]?=_/\_;obtain⟨t,rfl,m⟩:=hs s (by simp);by_cases l:i<x.ws.length
  ·rw[QC l]at hi;obtain⟨h1,h2⟩:=o.w i w hi;exact⟨by rw[QC (by rw[<-o.l];exact l)];exact h1,h2⟩
  have hl:=(Qd.mp hi).1;rw[Qh,QP]at hl;obtain rfl:i=x.ws.length:=by omega
  rw[QK (Qg _),Nat.sub_self]at hi;cases hi;refine⟨?_,hw.snoc m co⟩;rw[o.l,QK (Qg _),Nat.sub_self];show some (aW r (plB r way) t).2=some (plB r (way++[t]));rw[mM]
theorem jT {r:Rg} {ts:List Tu} (ok:RgOk r) (wt:Wt r ts):∀{f:Nat} {x:Sx} {nds:List Nd} {w:List Tu} {wd:Str},OuO r ts x nds->WsOk r ts x->outer r ts f x nds=.odd w wd->∃v t,w=v++[t]/\v.length<=100/\OddOk r ts v t wd
 | 0,x,nds,w,wd,o,ow,h=>by unfold outer at h;cases h
 | f+1,x,nds,w,wd,o,ow,h=>by
  unfold outer at h;by_cases c:nds.length<x.ps.length
  ·rw[Qs c]at h;have gp:=Sx.p_mem c;have gw:=Sx.w_mem (x:=x) (i:=nds.length) (by rw[ow.l];exact c);obtain⟨e1,hwy⟩:=ow.w _ _ gw;have hln:=ow.n _ (Qk gw);have l40:=o.l40;have owl:=ow.l;have ep:x.p nds.length=plB r (x.wy nds.length):=QF (gp.symm.trans e1);have po:=o.ok _ (Qk gp);rw[ep]at h gp po;generalize x.wy nds.length=way at h gp po hwy hln
   have hs:∀s∈bT r ts (plB r way),∃t,s=aW r (plB r way) t/\MayOk r ts (plB r way) t:=λs hs=>by
    obtain⟨t,ht,rfl⟩:=Qm.mp hs;obtain⟨ht,hm⟩:=QW.mp ht;exact⟨t,rfl,ht,po,hm⟩
   cases e:bM r (plB r way).2 way (bT r ts (plB r way)) x [] with
   | inl res =>
    rw[e]at h;dsimp only at h;rw[h]at e;obtain⟨s,ms,e2,co⟩:=j_ e;obtain⟨t,rfl,m⟩:=hs s ms;exact⟨way,t,e2,by omega,hwy,m,co⟩
   | inr q =>
   obtain⟨x',nd⟩:=q;rw[e]at h;dsimp only at h;exact jT ok wt (o.step ok wt gp e) (i5 hwy hln hs ow e) h
  rw[Qo c]at h;cases h
theorem wc (ok:RgOk r) (wt:Wt r ts) {w:List Tu} (h:unf r ts=.odd w wd):∃v t,w=v++[t]/\v.length<=100/\OddOk r ts v t wd:=by
 refine jT (x:=Sx.first r) (nds:=[]) ok wt ⟨QR _,(by decide:1<=40),rfl,QU.mpr ⟨by simp,.nil⟩,λp hp=>?_,λi p hi=>absurd hi (X8 _),λj p hj=>?_,rfl⟩ ⟨rfl,λw hw=>by cases Qy.mp hw;exact Nat.zero_lt_one,λi w hi=>?_⟩ h
 ·cases Qy.mp hp;exact pE ok
 ·left
  have:=(Qd.mp hj).1;have:j<1:=this;omega
 have hl:=(Qd.mp hi).1;have hl:i<1:=hl;obtain rfl:i=0:=by omega
 have hi:some ([]:List Tu)=some w:=hi;cases hi;exact⟨rfl,λk t hk=>by cases hk⟩
theorem xu {t:Str} (h:sgB row i=!decide (t = "+")) (e:V.str ⟨#[d]⟩=sg (decide (t = "+"))):(⟨#[d]⟩:Str)=dE row i:=by
 unfold dE;unfold sgB at h;rw[h];unfold sg at e;cases c:decide (t = "+") <;> rw[c]at e <;> exact V.str.inj e
theorem yA {t:Tu} (mok:MkOk as ms) (h:cK as ms t=true):(0:Int)∉((ms.zip as).filter λq=>decide (q.2.two=t)).map (·.1):=λz=>by
 obtain⟨q,hq,e⟩:=Qm.mp z;obtain⟨hq,c⟩:=QW.mp hq;rw[oC]at hq;obtain⟨q',hq',rfl⟩:=Qm.mp hq;have:=QT.mp h q' hq';have c:q'.1.two=t:=Xu c;have e:q'.2=0:=e;rw[Qv c,X1,Bool.false_or,decide_eq_true_eq]at this;omega
theorem vJ {K:PySem.W.Frag} {xs:List V} (hi:U[i]?=some (some (.ref l))) (hl:H l=some (.lst xs)) (q:∀H',aj H H'->Q (.bl (!decide (xs.length=0))) H'):tOp (oW K true) (fO i) (wg lY) U H Q:=by
 refine i_op (aE hi (i_lst (aZ ⟨by simp[sizeLine],λp hp=>?_⟩)));refine⟨l,p,xs,[],λ_=>true,rfl,rfl,SqL.of (aw hp _ _ hl),SqL.of af,λj x y _ e=>by simp at e,?_⟩
 have e:(if true=true then !(xs.length==([]:List V).length&&(List.range xs.length).all λ_=>true) else (xs.length==([]:List V).length&&(List.range xs.length).all λ_=>true))=!decide (xs.length=0):=by
  rw[Qs rfl,QT.mpr (λ_ _=>rfl),Bool.and_true];rfl
 rw[e];exact q _ (aw hp)
def ud:Sp:=λvs H Q _=>∃(a li lo l wl:Addr) (as:List V) (r:Rg) (ts:List Tu) (v:List Tu) (t:Tu) (wd:Str),vs=[.ref a,.ref wl,.str wd]/\RgA H a li lo l as r/\RgOk r/\Wt r ts/\jC H wl (v++[t])/\v.length<=100/\OddOk r ts v t wd/\∀H',aj H H'->Q (.bl true) H'
section
theorem gK:FnScope ["ring", "turns", "word", "inputs", "outputs", "signs", "arcs", "wires", "marks", "k", "turn", "waiting", "at", "odd"] ["ring", "turns", "word"] (au (top 44)):=by fin2
theorem wP {f:Addr} {fd:FuncData} (Fu:Fun K "_law_odd_right" "_law_odd_right" (top 44) f fd) (T:Txt K mg TT) (f_law_behind:Fn P w K mg base "_law_behind" ["marks", "arcs", "turn"] 2 jK):FnOk P w K mg base CX0 5 f fd ["ring", "turns", "word"] ud:=by
 have S:=gK;refine Fu.ok S (by room) (λcdv A outer s H vs Q E hr h=>?_);obtain⟨a,li,lo,l,wl,as,r,ts,v,t,wd,rfl,at_,ok,wt,hwl,few,od,k⟩:=h;have hu:=cV hr;have ha:=at_.ha;obtain⟨wvs,hwv,pw⟩:=hwl;refine'⟨?_,?bb,?_⟩
 case bb =>
  walk_at "b";exact(oY (pv 0) (dQ rfl (aH (bB 3 S.nd) (aH (bB 4 S.nd) (aH (bB 5 S.nd) (aH (bB 6 S.nd) bL))))));exact aG 7 S.nd (aO eD (pv 3) (pv 4));exact(mK (j:=8) S.nd rfl (by z_go) (tgs:=["one", "other", "mark"]) (cap:=[]) rfl ⟨rfl,rfl,rfl,rfl,rfl,rfl⟩ (bi (pv 6)) (λ_ _ _ _=>(fo (K:=K) (n:=3) rfl rfl (aH (bw (i:=0) (show List.Nodup [("one" : Str),("other" : Str),("mark" : Str)] by decide +kernel) rfl (by z_go)) (aH (bw (i:=1) (show List.Nodup [("one" : Str),("other" : Str),("mark" : Str)] by decide +kernel) rfl (by z_go)) (aH (bw (i:=2) (show List.Nodup [("one" : Str),("other" : Str),("mark" : Str)] by decide +kernel) rfl (by z_go)) bL))))) (λ_ _ _ _=>dS) (λ_ _ _ _=>(pv 2)));walk_at "f";exact(kY (by rfl) T.n_enumerate (aa (pv 1) ac ad));exact(dQ rfl (aH (bB 9 S.nd) (aH (bB 10 S.nd) bL)));walk_at "p";exact(mK (j:=11) S.nd rfl (by z_go) (tgs:=["mark", "arc"]) (cap:=[("turn", 10)]) rfl ⟨rfl,rfl,rfl,rfl,rfl,rfl⟩ (ij (by rfl) T.n_zip (aa (pv 8) (aa (pv 6) ac ad) ad)) (λ_ _ _ _=>(fo (K:=K) (n:=2) rfl rfl (aH (bw (i:=0) (show List.Nodup [("mark" : Str),("arc" : Str),("turn" : Str)] by decide +kernel) rfl (by z_go)) (aH (bw (i:=1) (show List.Nodup [("mark" : Str),("arc" : Str),("turn" : Str)] by decide +kernel) rfl (by z_go)) bL)))) (λ_ _ _ _=>(eY (aC (k6 (K:=K) rfl hr.units) (am (de (K:=K) rfl) (pv 1) ae) (pv 2) (aF _)))) (λ_ _ _ _=>(pv 0)));exact(aC df ae (pv 11) rfl);exact(aD cq);exact aG 8 S.nd (aM f_law_behind hr (aa (pv 8) (aa (pv 6) (aa (pv 10) ac ad) ad) ad));exact aG 12 S.nd (bO QE Xk Xl gi (pv 7) (aa (am aA (pv 10) ae) ac));exact aG 13 S.nd (bn cC (am dD (pv 5) (pv 12)) (am dD bj (bp bN (by rfl) T.n_int Xo (aa (bn cC (am aA (pv 10) ae) bj (aF _)) ac))) (aF _));exact(PW.pt (oX (aC jU (pv 9) (aO fU (aq ay (by rfl) T.n_len QL (aa (pv 1) ac ad)) ae) (aF _)) (kX (PW.pt (dR (cr (pv 13)) (dv (aC df ae (pv 8) rfl)))))));exact(aD cq);exact aG 5 S.nd (aO bW (aO bW (bU fQ (pv 5) cB (cA (pv 12))) (am dD bj (bp bN (by rfl) T.n_int Xo (aa (bn cC (am aA (pv 10) ae) bj (aF _)) ac)))) (bU fQ (pv 5) (cA (aO cD (pv 12) ae)) cB))
  with_reducible refine' aD ?e
  case e =>
   exact(dw (bn (kZ hr.units) (pv 1) (pe_lst ac) (aF _)) (eC (am aX (pe_lst (aa (dw (bn cC (pv 2) bj (aF _)) (dw (bn df ae (pv 8) rfl) (eC (uG (pv 13))))) (aa (bn cC (pv 2) bj (aF _)) ac))) (bp bN (by rfl) T.n_int Xo (aa (pv 13) ac ad)))))
 x_go;have w5:=ok.w5;have arl:=ok.few;have lw:(r.ins.map V.str).length+(r.outs.map V.str).length=r.ws.length:=by rw[Qb,Qb];unfold Rg.ws;rw[Qh]
 have lpw:=av pw;rw[Qh,QP]at lpw;lk;refine⟨a,_,rfl,SqT.of ha,rfl,_,_,rfl,az ⟨_,_,rfl,az ⟨_,_,rfl,az ⟨_,_,rfl,az ⟨rfl,?_⟩⟩⟩⟩⟩;lk;refine gv at_.hi at_.ho (by rw[lw];omega) λwl2 hwl2=>?_;rw[<-QI];generalize hE:upd H wl2 _=H1;obtain⟨S1,qwl⟩:=ak hwl2 hE;have at1:=at_.same S1;kt_k;lk;refine bC (s_list (aE rfl ⟨l,rfl,⟨_,SqL.of at1.arcs.h⟩,λm0 hm0=>?_⟩));refine eK (λ_=>true) (λH v (a:Arc)=>v=.int a.mark) hm0 at1.arcs.h at1.arcs.p (QJ ok.few (by decide)) (λH H' v x k h=>h) (λv x H' ia mx S' G N hG _=>?_) (λH5 ys S5 hy py=>?_)
 ·obtain⟨b,v1,v2,rfl,hb,t1,t2⟩:=ia.kt (aj.tups S');refine⟨b,_,rfl,SqT.of hb,rfl,_,_,rfl,az ⟨_,_,rfl,az ⟨_,_,rfl,az ⟨rfl,trivial,i_yes (cu ?_)⟩⟩⟩⟩;lk;exact hG rfl _ H' (aj.refl _) rfl
 rw[cN]at py;have e:ys=(mks r.arcs).map V.int:=by rw[cI py];unfold mks;rw[Q3];rfl
 subst e;have S15:=S1.trans S5;have at5:=at_.same S15;have qwl5:=S5 _ _ qwl;have hwv5:=S15 _ _ hwv;have pw5:=ag (λ_ _ h=>TuA.kt (aj.tups S15) h) pw;clear hE qwl S1 hm0 py at1 S5;kt_k;lk;refine aY (aE rfl (aZ ⟨wl,rfl,⟨_,SqL.of hwv5⟩,?_⟩));let I24:IvF:=λi U H'=>∃(sg0:Str) (mb:Addr) (ms:List Int) (y9 y10 y11 y12 y13:Option V),U=[some (.ref a),some (.ref wl),some (.str wd),some (.ref li),some (.ref lo),some (.str sg0),some (.ref l),some (.ref wl2),some (.ref mb),y9,y10,y11,y12,y13]/\aj H5 H'/\H' mb=some (.lst (ms.map V.int))/\(i<=v.length->sg0=(plB r (v.take i)).2/\ms=(plB r (v.take i)).1)/\(i=v.length+1->∃b,y13=some (.bl b)/\((b=true/\wd = "signs")\/(b=false/\wd = "twice" /\ 2∈ms)));refine i8 (xs:=wvs) I24 ⟨_,_,_,_,_,_,_,_,rfl,aj.refl _,hy,(λ_=>⟨rfl,rfl⟩),(λh=>by omega)⟩ (λi U H' _ ⟨_,_,_,_,_,_,_,_,_,S',_⟩=>SqL.of (S' _ _ hwv5)) (λi x U H' TA ex h hT=>?_) (λU H' h=>?_)
 ·obtain⟨sg0,mb,ms,y9,y10,y11,y12,y13,rfl,S',hmb,q1,q2⟩:=h;obtain⟨u,eu,tu⟩:=paired_get pw5 ex;have il:=(Qd.mp ex).1;obtain⟨rfl,rfl⟩:=q1 (by omega);clear q1 q2;ctx_has H' TA G1 T1 qTA ak hT;have tu1:=(tu.kt (aj.tups S')).kt (aj.tups T1);obtain⟨ta,rfl,hta⟩:=id tu1;have at':=at5.same (S'.trans T1);have hmb1:=T1 _ _ hmb
  have mok:MayOk r ts (plB r (v.take i)) u:=by
   by_cases c:i<v.length
   ·rw[QC c]at eu;exact(od.wy i u eu).1
   obtain rfl:i=v.length:=by omega
   rw[QK (Qg _),Nat.sub_self]at eu;cases eu;rw[List.take_length];exact od.m
  have po:=mok.ok;have tok:=Wt.ok ok wt mok.mt;have xl:=QS tok.1;have hz:=po.z.len;refine⟨TA,_,rfl,SqT.of qTA,rfl,_,_,rfl,az ⟨_,_,rfl,az ⟨rfl,?_⟩⟩⟩;lk;refine bC (aY (aE rfl (aY (aE rfl (aZ ⟨mb,l,false,false,rfl,⟨_,SqL.of hmb1⟩,⟨_,SqL.of at'.arcs.h⟩,λD hD=>?_⟩)))));refine pY (λq:Int × Arc=>decide (q.2.two=u)) (λH v p=>v=.int p.1) hD hmb1 at'.arcs.h (dM _) at'.arcs.p po.m.len (by rw[po.m.len];omega) (λH H' v x k h=>h) (λv m w' ar b G im ia mx S'' hb GG N hG hN=>?_) (λG2 ys T2 hy2 py2=>?_)
  ·obtain⟨c,v1,v2,rfl,hc,t1,t2⟩:=ia.kt (aj.tups S'');cases im;refine⟨b,_,rfl,SqT.of hb,rfl,_,_,rfl,az ⟨_,_,rfl,az ⟨rfl,⟨rfl,trivial⟩,?_⟩⟩⟩;lk;refine eJ t2 (tu1.kt (aj.tups S'')) ⟨_,rfl,?_⟩;by_cases c1:ar.two=u
   ·refine ifT (Qv c1) ?_;lk;exact hG (Qv c1) _ G (aj.refl _) rfl
   exact ifF (Qu c1) (hN (Qu c1) G (aj.refl _))
  have ey:ys=((((plB r (v.take i)).1.zip r.arcs).filter λq=>decide (q.2.two=u)).map (·.1)).map V.int:=by rw[cI py2,Q3];rfl
  subst ey;have no0:=yA po.m mok.may;have tu2:=tu1.kt (aj.tups T2);have hta2:=T2 _ _ hta;have S2:=(S'.trans T1).trans T2;have at2:=at5.same S2;have hmb2:=T2 _ _ hmb1;have hy2':=hy2;lk;refine⟨D,_,rfl,.inl (SqL.of hy2),rfl,fz _,_,rfl,?_⟩;refine ifF (Bool.eq_false_iff.mpr λz=>no0 (eI.mp z)) ?_;lk;refine⟨mb,l,ta,as,r,_,u,rfl,hmb2,at2.arcs,ok,po.m,tu2,λmb' G3 T3 hn3 hm3=>?_⟩;have S3:=S2.trans T3;have hta3:=T3 _ _ hta2;have qwl3:=S3 _ _ qwl5;have hwv3:=S3 _ _ hwv5;have s1:=Txt.slice_le (plB r (v.take i)).2 none (some ((r.ws.idxOf u.1:Nat):Int));have s2:=Txt.slice_le (plB r (v.take i)).2 (some (((r.ws.idxOf u.1:Nat):Int)+1)) none;have zl:(plB r (v.take i)).2.length=r.ws.length:=hz;clear T1 qTA T2 hy2 hy2' py2 hmb1 hmb2 no0 hD hta hta2 tu1 hT at';lk;refine⟨wl2,r.ws,u.1,r.ws.idxOf u.1,rfl,rfl,qwl3,lD tok.1,fq,by omega,?_⟩;lk;refine ff (by omega) (lK po.z xl) ?_;have es:=kO po.z xl;unfold f9 at es;rw[es];lk;obtain⟨d,ed,ed2⟩:=A1 (decide (V.str u.2=V.str "+"));refine ff (by decide) ed ?_;rw[ed2];refine i_eq (wq _ _) ?_;have eplus:decide (V.str u.2=V.str "+")=decide (u.2 = "+"):=decide_eq_decide.mpr ⟨λh=>V.str.inj h,λh=>by rw[h]⟩;rw[Af,eplus];rw[eplus]at ed2;have edl:(⟨#[d]⟩:Str).length=1:=rfl;have eb:(decide (((plB r (v.take i)).2.cps.getD (r.ws.idxOf u.1) 0==49)=decide (u.2 = "+")))=decide (sgB (plB r (v.take i)).2 (r.ws.idxOf u.1)=decide (u.2 = "+")):=rfl;rw[eb];generalize hb:decide (sgB (plB r (v.take i)).2 (r.ws.idxOf u.1)=decide (u.2 = "+"))=b
  have fac:i<v.length->b=false/\2∉dH r.arcs (plB r (v.take i)).1 u:=λc=>by
   rw[QC c]at eu;have o:=(od.wy i u eu).2;unfold dy at o;by_cases c1:sgB (plB r (v.take i)).2 (r.ws.idxOf u.1)=decide (u.2 = "+")
   ·rw[show (aW r (plB r (v.take i)) u).1=u from rfl,Qs c1]at o;cases o
   rw[show (aW r (plB r (v.take i)) u).1=u from rfl,Qo c1]at o;refine⟨by rw[<-hb];exact Qu c1,λz=>?_⟩;rw[Qs (show 2∈(aW r (plB r (v.take i)) u).2.1 from z)]at o;cases o
  kt_k;let I25:IvJ:=λU G=>U=[some (.ref a),some (.ref wl),some (.str wd),some (.ref li),some (.ref lo),some (.str (plB r (v.take i)).2),some (.ref l),some (.ref wl2),some (.ref mb'),some (.int (i:Int)),some (.ref ta),some (.ref D),some (.int (r.ws.idxOf u.1:Nat)),some (.bl b)]/\G=G3;with_reducible refine cT I25 (λRR hJ=>?_) (λU G h=>?_)
  ·lk;by_cases c:i<v.length
   ·obtain⟨rfl,n2⟩:=fac c;refine ifT (Qv (by omega)) ?_;lk;refine⟨mb',_,rfl,.inl (SqL.of hm3),rfl,fz _,_,rfl,?_⟩;rw[Bool.eq_false_iff.mpr λz=>n2 (eI.mp z)];exact ifF rfl (s_next (hJ _ _ ⟨rfl,rfl⟩))
   exact ifF (Qu (by omega)) (iteF (s_next (hJ _ _ ⟨rfl,rfl⟩)))
  obtain⟨rfl,rfl⟩:=h;lk;refine i7 (by omega) ?_;lk;refine ff (by decide) ed ?_;refine⟨_,_,rfl,rfl,by omega,?_⟩;lk;refine i7 (by omega) ?_;refine⟨_,_,rfl,rfl,by rw[lap];omega,?_⟩;refine⟨_,_,_,_,_,_,_,_,rfl,S3,hm3,λc=>?_,λc=>?_⟩
  ·have c':i<v.length:=c;obtain⟨b0,n2⟩:=fac c';rw[b0,decide_eq_false_iff_not]at hb;rw[QC c']at eu;have et:v.take (i+1)=v.take i++[u]:=by rw[XH,eu];rfl
   have sgn:sgB (plB r (v.take i)).2 (r.ws.idxOf u.1)=!decide (u.2 = "+"):=by
    cases h1:sgB (plB r (v.take i)).2 (r.ws.idxOf u.1) <;> cases h2:decide (u.2 = "+") <;> simp_all
   rw[et,mM,xu sgn ed2];exact⟨rfl,rfl⟩
  obtain rfl:i=v.length:=by omega
  rw[QK (Qg _),Nat.sub_self]at eu;cases eu;refine⟨b,rfl,?_⟩;have o:=od.o;rw[List.take_length]at hb ⊢;unfold dy at o;by_cases c1:sgB (plB r v).2 (r.ws.idxOf t.1)=decide (t.2 = "+")
  ·rw[show (aW r (plB r v) t).1=t from rfl,Qs c1]at o;exact .inl ⟨by rw[<-hb];exact Qv c1,(QF o).symm⟩
  rw[show (aW r (plB r v) t).1=t from rfl,Qo c1]at o;by_cases c2:2∈(aW r (plB r v) t).2.1
  ·rw[Qs c2]at o;exact .inr ⟨by rw[<-hb];exact Qu c1,(QF o).symm,c2⟩
  rw[Qo c2]at o;cases o
 obtain⟨sg0,mb,ms,y9,y10,y11,y12,y13,rfl,S',hmb,q1,q2⟩:=h;obtain⟨b,rfl,hb⟩:=q2 (by omega);have hwv':=S' _ _ hwv5;have hmb':=hmb;refine s_ret (i_andV (vJ rfl hwv' λG2 T2=>⟨_,rfl,?_⟩));refine ifT (by rw[Qu (by omega)];rfl) ?_;have hmb2:=T2 _ _ hmb;rcases hb with⟨rfl,rfl⟩|⟨rfl,rfl,two⟩
 ·have ne:("signs" : Str) ≠ "twice" := by decide +kernel
  lk;refine ifF (Qu λz=>ne (V.str.inj z)) ?_;lk;refine⟨by simp[sizeLine],λq hq=>?_⟩;lk;refine i_ixL (SqL.of af) (bK (j:=1) rfl) ?_;rw[Qv rfl];exact k _ ((S15.trans S').trans (T2.trans (aw hq)))
 lk;refine ifT (Qv rfl) ?_;lk;refine⟨mb,_,rfl,.inl (SqL.of hmb2),rfl,fz _,_,rfl,?_⟩;rw[eI.mpr two];refine ifT rfl ?_;lk;refine⟨by simp[sizeLine],λq hq=>?_⟩;lk;refine i_ixL (SqL.of af) (bK (j:=0) rfl) ?_;exact k _ ((S15.trans S').trans (T2.trans (aw hq)))
end
structure Low (z:Str):Prop where
 l1:1<=z.length
 l8:z.length<=8
 low:∀c∈z.cps.toList,97<=c/\c<=122
def t9:Sp:=λvs H Q _=>∃a xs,vs=[.ref a]/\H a=some (.tup xs)/\xs.length<=1000/\Q (.bl (decide (xs.length=2))) H
def ua:Sp:=λvs H Q _=>∃z,vs=[.str z]/\Low z/\∀H',aj H H'->Q (.bl true) H'
theorem lE {r r':R2} {ta tb tc:TE} (q:ta U H λx H1=>tb U H1 λy H2=>r x y H2 λz H3=>∃k,z=.bl k/\(if k=true then tc U H3 λw' H4=>r' y w' H4 Q else Q (.bl false) H3)):oM r r' ta tb tc U H Q:=q
theorem zj {c:Nat} (h:97<=c/\c<=122):(!(Builtin.Str.occurrences (Str.ofString "abcdefghijklmnopqrstuvwxyz") (⟨#[c]⟩:Str) 0 (Str.ofString "abcdefghijklmnopqrstuvwxyz").length 1).isEmpty)=true:=by
 have all:∀k:Fin 26,(!(Builtin.Str.occurrences (Str.ofString "abcdefghijklmnopqrstuvwxyz") (⟨#[97+k.val]⟩:Str) 0 (Str.ofString "abcdefghijklmnopqrstuvwxyz").length 1).isEmpty)=true:=by decide +kernel
 have q:=all ⟨c-97,by omega⟩;have e:97+(c-97)=c:=by omega
 simpa only[e] using q
def l9:Sp:=λvs H Q _=>∃(l:Addr) (ts:List Str),vs=[.ref l]/\H l=some (.lst (ts.map V.str))/\ts.length<=100/\(∀z∈ts,Low z)/\∀H',aj H H'->Q (.bl (decide ts.Nodup)) H'
theorem vK {K:PySem.W.Frag} {ta:TA} (q:ta U H λvs H1=>∃(l:Addr) (ts:List Str),vs=[.ref l]/\SqL K H1 l (ts.map V.str)/\ts.length<1000/\Q (.int (oF ts)) H1):qp K ta U H Q:=q
def xX:Sp:=λvs H Q _=>∃(z:Str) (m:Nat),vs=[.str z,.int (m:Int)]/\m<=11/\StOk m z/\∀H',aj H H'->Q (.bl true) H'
def qw:Sp:=λvs H Q _=>∃(i:Int),vs=[.int i]/\Q (.bl true) H
def qG:Sp:=λvs H Q _=>∃(i n:Int),vs=[.int i,.int n]/\Q (.bl (decide (0<=i/\i<n))) H
theorem zn {K:PySem.W.Frag}:PySem.W.kitOne K (.type "int") (.type "bool")=some false:=by with_unfolding_all rfl
section
theorem oR:FnScope ["thing"] ["thing"] (au (top 7)):=by fin2
variable {fd:FuncData} {f:Addr}
theorem wL (Fu:Fun K "is_pair" "is_pair" (top 7) f fd) (T:Txt K mg TT):FnOk P w K mg base CX0 1 f fd ["thing"] t9:=by
 have S:=oR;refine Fu.ok S (by room) (λcdv A outer s H vs Q E hr h=>?_);obtain⟨a,xs,rfl,ha,hx,q⟩:=h;refine⟨_,(aI (aD (dw (aq bE (by rfl) T.n_isinstance Xc (aa (pv 0) (aa (db (v:=.ty "tuple") (by rfl) T.n_tuple PyProof.Rows.boot_tuple rfl) ac ad) ad)) (eC (bn cC (aq ay (by rfl) T.n_len QL (aa (pv 0) ac ad)) ae (aF _)))))),?_⟩;x_go;lk;refine⟨_,_,_,true,rfl,.tup ha,cU _,?_⟩;refine⟨_,rfl,cu ?_⟩;lk;refine⟨a,xs,rfl,.inr (SqT.of ha),?_⟩;lk
 have e:decide (V.int ↑xs.length=V.int 2)=decide (xs.length=2):=by
  rw[XR,XB,XB]
  constructor
  ·intro h;injection h with h;omega
  intro h;rw[h];rfl
 rw[e];exact q
theorem oU:FnScope ["thing"] ["thing"] (au (top 6)):=by fin2
theorem wN (Fu:Fun K "is_name" "is_name" (top 6) f fd) (T:Txt K mg TT):FnOk P w K mg base CX0 1 f fd ["thing"] ua:=by
 have S:=oU;refine Fu.ok S (by room) (λcdv A outer s H vs Q E hr h=>?_);obtain⟨z,rfl,lz,q⟩:=h;obtain⟨_,gLT⟩:=T.lETTERS;obtain⟨_,gML⟩:=T.mLETTERS
 refine⟨_,(aK (ps_if (PW.pt (dR (cz (cr (aq bE (by rfl) T.n_isinstance Xc (aa (pv 0) (aa (db (v:=.ty "str") (by rfl) T.n_str PyProof.Rows.boot_str rfl) ac ad) ad)))) (dv (cz (ux mU mU ae (aq eM (by rfl) T.n_len QL (aa (pv 0) ac ad)) (c_ (v:=.int 8) (by rfl) gML ⟨_,rfl⟩)))))) (aI (aD cq)) pss_nil)
  (aI (aD (aq (cW rfl) (by rfl) T.n_all XV (aa (dW "sign" [] (uD (pv 0)) (λ_ _ _ _=>(bn sj (pv 0) (c_ (v:=.str "abcdefghijklmnopqrstuvwxyz") (by rfl) gLT ⟨_,rfl⟩) rfl))) ac))))),?_⟩
 x_go;lk;refine⟨_,_,_,_,rfl,TyOf.str z,cU "str", ?_⟩;refine⟨_,rfl,iteF ?_⟩;have big:1000<sizeLine:=by decide
 have l1:=lz.l1;have l8:=lz.l8;lk;refine lE ?_;lk;refine⟨_,rfl,by omega,?_⟩;lk;refine ifT (Qv (by omega)) ?_;lk;refine ifF (by rw[Qv (by omega)];rfl) ?_;lk;refine bC ?_;lk;intro D hD;refine nZ (λn H' ys=>aj H H'/\H' D=some (.lst ys)/\ys=(List.replicate n true).map V.bl) ⟨aw hD,af,rfl⟩ (λn H' ys p=>p.2.1) (λn H' ys hn p=>?_) (λH' ys p=>?_)
 ·obtain⟨Sm,hd,rfl⟩:=p;refine az ⟨trivial,i_yes (cu ?_)⟩;refine i_op (aE rfl (i_c ⟨_,_,rfl,rfl,?_⟩));refine c8.mk hd hn (by rw[Qb,X5];have:z.cps.size=z.length:=rfl;omega) ⟨bu Sm hD,af,?_⟩
  have hc:=zj (c:=z.cps.getD n 0) (by
   have e:z.cps.getD n 0=z.cps[n]:=by simp[Array.getD,hn]
   rw[e]
   exact lz.low _ (by simp))
  rw[List.replicate_succ',QI];exact congrArg (λb=>List.map V.bl (List.replicate n true)++[V.bl b]) hc
 obtain⟨Sm,hd,rfl⟩:=p;refine aZ ⟨_,_,rfl,SqL.of hd,?_⟩;have e:(List.replicate z.cps.size true).all id=true:=by simp
 rw[e];exact q H' Sm
theorem fE:FnScope ["things"] ["things"] (au (top 11)):=by fin2
theorem sw (Fu:Fun K "are_unlike_names" "are_unlike_names" (top 11) f fd) (T:Txt K mg TT) (f_is_name:Fn P w K mg base "is_name" ["thing"] 1 ua):FnOk P w K mg base CX0 2 f fd ["things"] l9:=by
 have S:=fE;refine Fu.ok S (by room) (λcdv A outer s H vs Q E hr h=>?_);obtain⟨l,ts,rfl,hl,sz,low,q⟩:=h;refine⟨_,(aI (aD (dw (aq (cW rfl) (by rfl) T.n_all XV (aa (dW "thing" [] (bi (pv 0)) (λ_ _ _ _=>(aM f_is_name hr (aa (pv 0) ac ad)))) ac)) (eC (bn cC (jP rfl (by rfl) T.n_len (by rfl) T.n_set (aa (pv 0) ac ad)) (aq ay (by rfl) T.n_len QL (aa (pv 0) ac ad)) (aF _)))))),?_⟩;x_go;lk;refine bC ?_;lk;refine⟨l,rfl,⟨_,SqL.of hl⟩,λD hD=>?_⟩;refine d8 (xs:=ts.map V.str) (λn H' ys=>aj H H'/\H' D=some (.lst ys)/\ys=(List.replicate n true).map V.bl) ⟨aw hD,af,rfl⟩ (λn H' ys p=>⟨p.2.1,SqL.of (p.1 _ _ hl)⟩) (λn x H' ys e p=>?_) (λH' ys p=>?_)
 ·obtain⟨Sm,hd,rfl⟩:=p;have hn:n<(ts.map V.str).length:=(Qd.mp e).1;rw[Qp]at e
  obtain⟨z,hz,rfl⟩:∃z,ts[n]?=some z/\V.str z=x:=by
   cases h:ts[n]? with
   | none=>rw[h]at e;cases e
   | some z=>rw[h]at e;exact⟨z,rfl,QF e⟩
  refine az ⟨trivial,i_yes (cu ?_)⟩;refine i_call (aY (aE rfl (aZ ⟨z,rfl,low z (Qk hz),λH2 S2=>?_⟩)));refine c8.mk (S2 _ _ hd) hn (by rw[Qb,X5];rw[Qb]at hn;omega) ⟨bu (Sm.trans S2) hD,af,?_⟩;rw[List.replicate_succ',QI];rfl
 obtain⟨Sm,hd,rfl⟩:=p;refine aZ ⟨_,_,rfl,SqL.of hd,?_⟩;have e:(List.replicate (ts.map V.str).length true).all id=true:=by simp
 rw[e];have hl':=Sm _ _ hl;refine⟨_,rfl,cu ?_⟩;lk;refine vK ?_;lk;refine⟨l,ts,rfl,SqL.of hl',by omega,?_⟩;lk
 have e2:decide (V.int (oF ts)=V.int ((ts.map V.str).length:Nat))=decide ts.Nodup:=by
  rw[XR,XB,XB,<-lX,Qb]
  constructor
  ·intro h;injection h with h;omega
  intro h;rw[h]
 rw[e2];exact q H' Sm
theorem r8:FnScope ["thing", "many"] ["thing", "many"] (au (top 10)):=by fin2
theorem ze (Fu:Fun K "is_row" "is_row" (top 10) f fd) (T:Txt K mg TT):FnOk P w K mg base CX0 1 f fd ["thing", "many"] xX:=by
 have S:=r8;refine Fu.ok S (by room) (λcdv A outer s H vs Q E hr h=>?_);obtain⟨z,m,rfl,hm,st,k⟩:=h
 refine⟨_,(aK (ps_if (PW.pt (dR (cz (cr (aq bE (by rfl) T.n_isinstance Xc (aa (pv 0) (aa (db (v:=.ty "str") (by rfl) T.n_str PyProof.Rows.boot_str rfl) ac ad) ad)))) (dv (aC iQ (aq eM (by rfl) T.n_len QL (aa (pv 0) ac ad)) (pv 1) (aF _))))) (aI (aD cq)) pss_nil)
  (aI (aD (aq (cW rfl) (by rfl) T.n_all XV (aa (dW "sign" [] (uD (pv 0)) (λ_ _ _ _=>(bn (si T.tab) (pv 0) (c_ (v:=.ref TT) (by rfl) T.tURNED rfl) rfl))) ac))))),?_⟩
 x_go;lk;refine⟨_,_,_,_,rfl,TyOf.str z,cU "str", ?_⟩;refine⟨_,rfl,iteF ?_⟩;have hz:z.length=m:=st.len;have big:1000<sizeLine:=by decide
 lk;refine⟨_,rfl,(by omega),?_⟩;lk;refine lA (λh=>?_) (λ_=>?_)
 ·exfalso;have e:(V.int ↑z.length)=V.int (m:Int):=congrArg (λ(n:Nat)=>V.int (n:Int)) hz;simp[e]at h
 lk;refine bC ?_;lk;intro D hD;refine nZ (λn H' ys=>aj H H'/\H' D=some (.lst ys)/\ys=(List.replicate n true).map V.bl) ⟨aw hD,af,rfl⟩ (λn H' ys p=>p.2.1) (λn H' ys hn p=>?_) (λH' ys p=>?_)
 ·obtain⟨Sm,hd,rfl⟩:=p;refine az ⟨trivial,i_yes (cu ?_)⟩;refine i_op (aE rfl (i_c ⟨_,rfl,rfl,?_⟩));refine c8.mk hd hn (by rw[Qb,X5];have:z.cps.size=z.length:=rfl;omega) ⟨bu Sm hD,af,?_⟩
  have hc:PyProof.Rows.KTD.inKeys (⟨#[z.cps.getD n 0]⟩:Str) [(("0" : Str),PyProof.Rows.KTD.Dat.flat (PyData.str "1")),("1", .flat (.str "0"))]=true:=by
   have:z.cps.getD n 0=48\/z.cps.getD n 0=49:=by
    have e:z.cps.getD n 0=z.cps[n]:=by simp[Array.getD,hn]
    rw[e];exact st.signs _ (by simp)
   rcases this with e|e
   ·rw[e];decide +kernel
   rw[e];decide +kernel
  rw[List.replicate_succ',QI];exact congrArg (λb=>List.map V.bl (List.replicate n true)++[V.bl b]) hc
 obtain⟨Sm,hd,rfl⟩:=p;refine aZ ⟨_,_,rfl,SqL.of hd,?_⟩;have e:(List.replicate z.cps.size true).all id=true:=by simp
 rw[e];exact k H' Sm
theorem mH:FnScope ["thing"] ["thing"] (au (top 8)):=by fin2
theorem uS (Fu:Fun K "is_whole" "is_whole" (top 8) f fd) (T:Txt K mg TT):FnOk P w K mg base CX0 1 f fd ["thing"] qw:=by
 have S:=mH;refine Fu.ok S (by room) (λcdv A outer s H vs Q E hr h=>?_);obtain⟨i,rfl,q⟩:=h;refine⟨_,(aI (aD (dw (aq bE (by rfl) T.n_isinstance Xc (aa (pv 0) (aa (db (v:=.ty "int") (by rfl) T.n_int Xo rfl) ac ad) ad)) (eC (uG (aq bE (by rfl) T.n_isinstance Xc (aa (pv 0) (aa (db (v:=.ty "bool") (by rfl) T.n_bool PyProof.Rows.boot_bool rfl) ac ad) ad))))))),?_⟩;x_go;lk;refine⟨_,_,_,_,rfl,TyOf.int i,cU "int", _,rfl,cu ?_⟩;lk;exact⟨_,_,_,_,rfl,TyOf.int i,zn,_,rfl,q⟩
theorem fS:FnScope ["thing", "bound"] ["thing", "bound"] (au (top 9)):=by fin2
theorem u0 (Fu:Fun K "is_number_below" "is_number_below" (top 9) f fd) (T:Txt K mg TT) (f_is_whole:Fn P w K mg base "is_whole" ["thing"] 1 qw):FnOk P w K mg base CX0 2 f fd ["thing", "bound"] qG:=by
 have S:=fS;refine Fu.ok S (by room) (λcdv A outer s H vs Q E hr h=>?_);obtain⟨i,n,rfl,q⟩:=h;refine⟨_,(aI (aD (dw (aM f_is_whole hr (aa (pv 0) ac ad)) (eC (mS mU jU ae (pv 0) (pv 1)))))),?_⟩;x_go;lk;refine⟨i,rfl,_,rfl,cu ?_⟩;refine lE ?_;lk;by_cases c:0<=i
 ·refine ifT (Qv c) ?_;lk;have e:decide (0<=i/\i<n)=decide (i<n):=by simp[c]
  rw[e]at q;exact q
 refine ifF (Qu c) ?_;have e:decide (0<=i/\i<n)=false:=Qu λh=>c h.1;rw[e]at q;exact q
end
structure Frm (s:Sh):Prop where
 ok:ShOk s
 n40:s.nodes.length<=40
 i4:s.ins.length<=4
 o1:1<=s.outs.length
 o7:s.outs.length<=7
 low:∀x∈s.ws,Low x
 ndn:∀node∈s.nodes,(node.map (·.1)).Nodup
def t5:Sp:=λvs H Q _=>∃(t l:Addr) (ws:List Str) (nm:Str) (to m:Nat),vs=[.ref t,.ref l,.int (m:Int)]/\H t=some (.tup [.str nm,.int (to:Int)])/\H l=some (.lst (ws.map V.str))/\nm∈ws/\to<m/\Q (.bl true) H
def t_:Sp:=λvs H Q _=>∃(na l:Addr) (ws:List Str) (node:List (Str × Nat)) (m:Nat),vs=[.ref na,.ref l,.int (m:Int)]/\bF H na (dA node)/\H l=some (.lst (ws.map V.str))/\(∀p∈node,p.1∈ws/\p.2<m)/\(node.map (·.1)).Nodup/\node.length<=100/\∀H',aj H H'->Q (.bl true) H'
def kL:Sp:=λvs H Q _=>∃(a li lo ln:Addr) (nas:B3) (s:Sh),vs=[.ref a]/\ShAt H a li lo ln nas s/\Frm s/\∀H',aj H H'->Q (.bl true) H'
def kJ (TL:Addr):Sp:=λvs H Q _=>∃(a li lo ln:Addr) (nas:B3) (s:Sh),vs=[.ref a]/\ShAt H a li lo ln nas s/\Frm s/\cX TL bo H/\∀(b:Bool) H',Tk TL H H'->(b=true↔∃lam,Lab s lam)->Q (.bl b) H'
theorem Ag {K:PySem.W.Frag} {tl:TE} {R:It->Hp->Prop} (q:tl U H λx H1=>∃a,x=.ref a/\(∃xs,SqT K H1 a xs)/\R (Itt K a) H1):AT K tl U H R:=q
theorem gE {node:List (Str × Nat)} (pr:Paired (λv (s:V × Key)=>∃b,v=.ref b/\H b=some (.tup [s.1,kV s.2])) vs (dA node)) (e:vs[i]?=some v):∃(p:Str × Nat) (b:Addr),node[i]?=some p/\v=.ref b/\H b=some (.tup [.str p.1,.int (p.2:Int)]):=by
 obtain⟨st,hst,b,rfl,hb⟩:=paired_get pr e;unfold dA at hst;rw[Qp]at hst
 cases hp:node[i]? with
 | none=>rw[hp]at hst;cases hst
 | some p =>
 rw[hp]at hst;cases hst;exact⟨p,b,rfl,rfl,hb⟩
theorem jJ {node:List (Str × Nat)} (pr:Paired (λv (s:V × Key)=>∃b,v=.ref b/\H b=some (.tup [s.1,kV s.2])) vs (dA node)):vs.length=node.length:=by
 have:=av pr;unfold dA at this;rwa [Qb]at this
theorem jp (n:Nat):(List.replicate n true).all id=true:=by simp
def rho (kvs:List (Key × V)) (i:Nat):Str:=match aU kvs (Sum.inl (i:Int)) with
 | some (.str y)=>y
 | _ => ""
theorem uo {kvs:List (Key × V)} (h:aU kvs (Sum.inl (i:Int))=some (.str y)):rho kvs i=y:=by unfold rho;rw[h]
section
theorem oQ:FnScope ["thing", "wires", "many"] ["thing", "wires", "many"] (au (top 17)):=by fin2
variable {fd:FuncData} {f TL:Addr}
theorem wG (Fu:Fun K "is_turn" "is_turn" (top 17) f fd) (T:Txt K mg TT) (f_is_pair:Fn P w K mg base "is_pair" ["thing"] 1 t9) (f_is_number_below:Fn P w K mg base "is_number_below" ["thing", "bound"] 2 qG):FnOk P w K mg base CX0 3 f fd ["thing", "wires", "many"] t5:=by
 have S:=oQ;refine Fu.ok S (by room) (λcdv A outer s H vs Q E hr h=>?_);obtain⟨t,l,ws,nm,to,m,rfl,ht,hl,hnm,htm,q⟩:=h
 refine⟨_,(aK (ps_if (PW.pt (dR (cz (cr (aM f_is_pair hr (aa (pv 0) ac ad)))) (dR (cz (cr (aq bE (by rfl) T.n_isinstance Xc (aa (am aA (pv 0) ae) (aa (db (v:=.ty "str") (by rfl) T.n_str PyProof.Rows.boot_str rfl) ac ad))))) (dv (aC gg (am aA (pv 0) ae) (pv 1) rfl))))) (aI (aD cq)) pss_nil)
  (aI (aD (aM f_is_number_below hr (aa (am aA (pv 0) ae) (aa (pv 2) ac ad)))))),?_⟩
 x_go;lk;refine⟨t,_,rfl,ht,by simp,_,rfl,iteF ?_⟩;lk;refine⟨_,_,_,_,rfl,TyOf.str nm,cU "str", _,rfl,iteF ?_⟩;lk;refine⟨l,_,rfl,.inl (SqL.of hl),rfl,ke ws,_,rfl,?_⟩;refine ifF (by rw[Qs rfl,io.mpr hnm];rfl) ?_;lk;refine⟨_,_,rfl,?_⟩;have e:decide (0<=(to:Int)/\(to:Int)<(m:Int))=true:=Qv ⟨by omega,by omega⟩;rw[e];exact q
theorem oS:FnScope ["thing", "wires", "many"] ["thing", "wires", "many"] (au (top 18)):=by fin2
theorem wM (Fu:Fun K "is_node" "is_node" (top 18) f fd) (T:Txt K mg TT) (f_is_turn:Fn P w K mg base "is_turn" ["thing", "wires", "many"] 3 t5):FnOk P w K mg base CX0 4 f fd ["thing", "wires", "many"] t_:=by
 have S:=oS;refine Fu.ok S (by room) (λcdv A outer s H vs Q E hr h=>?_);obtain⟨na,l,ws,node,m,rfl,⟨vs,hv,pr⟩,hl,hp,nd,few,q⟩:=h
 refine⟨_,(aK (ps_if (PW.pt (dR (cz (cr (aq bE (by rfl) T.n_isinstance Xc (aa (pv 0) (aa (db (v:=.ty "list") (by rfl) T.n_list PyProof.Rows.boot_list rfl) ac ad) ad)))) (dv (cz (cr (aq (cW rfl) (by rfl) T.n_all XV (aa (dW "part" [("wires", 1),("many", 2)] (bi (pv 0)) (λ_ _ _ _=>(aM f_is_turn hr (aa (pv 0) (aa (pv 1) (aa (pv 2) ac ad) ad) ad)))) ac))))))) (aI (aD cq)) pss_nil)
  (aI (aD (bn cC (jP rfl (by rfl) T.n_len (by rfl) T.n_set (aa (dW "turn" [] (bi (pv 0)) (λ_ _ _ _=>(am (de (K:=K) rfl) (pv 0) ae))) ac)) (aq ay (by rfl) T.n_len QL (aa (pv 0) ac ad)) (aF _))))),?_⟩
 x_go;have lv:=jJ pr;lk;refine⟨_,_,_,_,rfl,TyOf.lst hv,cU "list", _,rfl,iteF ?_⟩;lk;refine bC (s_list (aE rfl ⟨na,rfl,⟨_,SqL.of hv⟩,λL hL=>?_⟩));refine d8 (xs:=vs) (λn H' ys=>aj H H'/\H' L=some (.lst ys)/\ys=(List.replicate n true).map V.bl) ⟨aw hL,af,rfl⟩ (λn H' ys p=>⟨p.2.1,SqL.of (p.1 _ _ hv)⟩) (λn x H' ys e p=>?_) (λH' ys p=>?_)
 ·obtain⟨Sm,hd,rfl⟩:=p;obtain⟨p,b,hpn,rfl,hb⟩:=gE pr e;have hn:n<vs.length:=(Qd.mp e).1;obtain⟨h1,h2⟩:=hp p (Qk hpn);refine az ⟨by repeat' (first|exact trivial|refine⟨rfl,?_⟩),i_yes (cu ?_)⟩;refine i_call (aY (aE rfl (aY (aE rfl (aY (aE rfl (aZ ?_)))))));refine⟨b,l,ws,p.1,p.2,m,rfl,Sm _ _ hb,Sm _ _ hl,h1,h2,?_⟩;refine c8.mk hd hn (by rw[Qb,X5];omega) ⟨bu Sm hL,af,?_⟩;rw[List.replicate_succ',QI];rfl
 obtain⟨Sm,hd,rfl⟩:=p;refine aZ ⟨_,_,rfl,SqL.of hd,_,rfl,?_⟩;refine ifF (by rw[jp];rfl) ?_;have hv':=Sm _ _ hv;lk;refine vK ?_;lk;refine bC (s_list (aE rfl ⟨na,rfl,⟨_,SqL.of hv'⟩,λL2 hL2=>?_⟩));refine d8 (xs:=vs) (λn H2 ys=>aj H' H2/\H2 L2=some (.lst ys)/\ys=((node.map (·.1)).take n).map V.str) ⟨aw hL2,af,by simp⟩ (λn H2 ys p=>⟨p.2.1,SqL.of (p.1 _ _ hv')⟩) (λn x H2 ys e p=>?_) (λH2 ys p=>?_)
 ·obtain⟨S2,hd2,rfl⟩:=p;obtain⟨p,b,hpn,rfl,hb⟩:=gE pr e;have hn:n<vs.length:=(Qd.mp e).1;refine az ⟨by repeat' (first|exact trivial|refine⟨rfl,?_⟩),i_yes (cu ?_)⟩;refine i_op (aE rfl (i_c (i_ixT ((Sm.trans S2) _ _ hb) rfl ?_)));refine c8.mk hd2 hn (by rw[Qb,QO,Qb];omega) ⟨bu S2 hL2,af,?_⟩;rw[XH,Qp,hpn,QI];rfl
 obtain⟨S2,hd2,rfl⟩:=p;rw[QV (by rw[Qb];omega)]at hd2;refine aZ ⟨L2,_,rfl,SqL.of hd2,by rw[Qb];omega,?_⟩;have hv2:=S2 _ _ hv';lk
 have e2:decide (V.int (oF (node.map (·.1)))=V.int (vs.length:Nat))=true:=by
  rw[lX.mpr nd,Qb,lv];simp
 rw[e2];exact q H2 (Sm.trans S2)
theorem kS:FnScope ["thing", "wires"] ["thing"] (au (top 19)):=by fin2
theorem su (Fu:Fun K "has_wires" "has_wires" (top 19) f fd) (T:Txt K mg TT) (f_are_unlike_names:Fn P w K mg base "are_unlike_names" ["things"] 2 l9) (f_is_row:Fn P w K mg base "is_row" ["thing", "many"] 1 xX):FnOk P w K mg base CX0 3 f fd ["thing"] kL:=by
 have S:=kS;refine Fu.ok S (by room) (λcdv A outer s H vs Q E hr h=>?_);obtain⟨a,li,lo,ln,nas,sh,rfl,at_,fr,q⟩:=h
 refine⟨_,(aK (ps_if (PW.pt (dR (cz (cr (aq bE (by rfl) T.n_isinstance Xc (aa (pv 0) (aa (db (v:=.ty "tuple") (by rfl) T.n_tuple PyProof.Rows.boot_tuple rfl) ac ad) ad)))) (dv (aC iQ (aq ay (by rfl) T.n_len QL (aa (pv 0) ac ad)) ae (aF _))))) (aI (aD cq)) pss_nil)
  (aK (ps_if (cz (cr (aq (cW rfl) (by rfl) T.n_all XV (aa (dW "place" [("thing", 0)] (yW (pe_tup (aa ae (aa ae (aa ae ac aP) aP) aP))) (λ_ _ _ _=>(aq (lJ (K:=K) rfl) (by rfl) T.n_isinstance Xc (aa (am (de (K:=K) rfl) (pv 1) (pv 0)) (aa (db (v:=.ty "list") (by rfl) T.n_list PyProof.Rows.boot_list rfl) ac ad))))) ac)))) (aI (aD cq)) pss_nil)
  (aK (aG 1 S.nd (aO eD (am aA (pv 0) ae) (am aA (pv 0) ae)))
  (aI (aD (dw (bn yh (aq ay (by rfl) T.n_len QL (aa (am aA (pv 0) ae) ac)) ae (aF _)) (dw (aM f_are_unlike_names hr (aa (pv 1) ac ad)) (eC (aM f_is_row hr (aa (am aA (pv 0) ae) (aa (aq ay (by rfl) T.n_len QL (aa (pv 1) ac ad)) ac se_call))))))))))),?_⟩
 x_go;have ha:=at_.ha;have w11:=fr.ok.w11;have lw:(sh.ins.map V.str).length+(sh.outs.map V.str).length=sh.ws.length:=by rw[Qb,Qb];unfold Sh.ws;rw[Qh]
 lk;refine⟨_,_,_,_,rfl,TyOf.tup ha,cU "tuple", _,rfl,iteF ?_⟩;lk;refine⟨a,_,rfl,.inr (SqT.of ha),?_⟩;lk;refine ifF rfl ?_;lk;refine bC (Ag ?_);lk;refine⟨by simp[sizeLine],λp hp=>?_⟩;ctx_has H p H1 S1 q1 ak hp;have at1:=at_.same S1;refine⟨p,rfl,⟨_,SqT.of q1⟩,λL hL=>?_⟩;refine vZ (xs:=[.int 0,.int 1,.int 3]) (λn H' ys=>aj H1 H'/\H' L=some (.lst ys)/\ys=(List.replicate n true).map V.bl) ⟨aw hL,af,rfl⟩ (λn H' ys p=>⟨p.2.1,SqT.of (p.1 _ _ q1)⟩) (λn x H' ys e p=>?_) (λH2 ys p=>?_)
 ·obtain⟨Sm,hd,rfl⟩:=p;have hn:n<3:=by simpa using(Qd.mp e).1
  obtain⟨b,xs,eb,hb⟩:∃(b:Addr) (xs:List V),(∃j:Int,x=.int j/\atI [V.ref li,V.ref lo,V.str sh.z,V.ref ln] j=some (.ref b))/\H1 b=some (.lst xs):=by
   match n,e with
   | 0,e=>cases e;exact⟨li,_,⟨0,rfl,rfl⟩,at1.hi⟩
   | 1,e=>cases e;exact⟨lo,_,⟨1,rfl,rfl⟩,at1.ho⟩
   | 2,e=>cases e;exact⟨ln,_,⟨3,rfl,rfl⟩,at1.hn⟩
  obtain⟨j,rfl,ej⟩:=eb;refine az ⟨by repeat' (first|exact trivial|refine⟨rfl,?_⟩),i_yes (cu ?_)⟩;refine i_cb (aY (i_op (aE rfl (aE rfl (i_ixT (Sm _ _ at1.ha) ej (aY (i_c (aZ ?_))))))));refine⟨_,_,_,_,rfl,TyOf.lst (Sm _ _ hb),cU "list", ?_⟩;refine c8.mk hd (by simpa using hn) (by rw[Qb,X5];omega) ⟨bu Sm hL,af,?_⟩;rw[List.replicate_succ',QI];rfl
 obtain⟨Sm,hd,rfl⟩:=p;refine aZ ⟨_,_,rfl,SqL.of hd,_,rfl,?_⟩;refine ifF (by rw[jp];rfl) ?_;have at2:=at1.same Sm;have ha2:=at2.ha;lk;refine gv at2.hi at2.ho (by omega) λLw hLw=>?_;rw[<-QI];ctx_has H2 Lw H3 S3 q3 ak hLw;have q3:H3 Lw=some (.lst (sh.ws.map V.str)):=q3;have at3:=at2.same S3;have ha3:=at3.ha;have ho3:=at3.ho;lk;rw[Qb];refine ifT (Qv (by have:=fr.o1;omega)) ?_;lk;refine⟨Lw,_,rfl,q3,by omega,fr.low,λH4 S4=>?_⟩;have ha4:=S4 _ _ ha3;have q4:=S4 _ _ q3;refine⟨_,rfl,ifT (Qv fr.ok.nd) ?_⟩;lk;refine⟨_,sh.ws.length,by rw[Qb],w11,fr.ok.st,λH5 S5=>?_⟩;exact q H5 (S1.trans (Sm.trans (S3.trans (S4.trans S5))))
theorem gc:FnScope ["thing", "wires", "many"] ["thing"] (au (top 20)):=by fin2
theorem wQ (Fu:Fun K "has_sheet_form" "has_sheet_form" (top 20) f fd) (T:Txt K mg TT) (f_has_wires:Fn P w K mg base "has_wires" ["thing"] 3 kL) (f_is_node:Fn P w K mg base "is_node" ["thing", "wires", "many"] 4 t_):FnOk P w K mg base CX0 5 f fd ["thing"] kL:=by
 have S:=gc;refine Fu.ok S (by room) (λcdv A outer s H vs Q E hr h=>?_);obtain⟨a,li,lo,ln,nas,sh,rfl,at_,fr,q⟩:=h;obtain⟨_,gMI⟩:=T.mINPUTS;obtain⟨_,gMG⟩:=T.mGATES;obtain⟨_,gMN⟩:=T.mNODES
 refine⟨_,(aK (ps_if (PW.pt (dR (cz (cr (aM f_has_wires hr (aa (pv 0) ac ad)))) (dR (aC iR (aq ay (by rfl) T.n_len QL (aa (am aA (pv 0) ae) ac)) (c_ (v:=.int 4) (by rfl) gMI ⟨_,rfl⟩) (aF _)) (dv (aC iR (aq ay (by rfl) T.n_len QL (aa (am aA (pv 0) ae) ac)) (c_ (v:=.int 7) (by rfl) gMG ⟨_,rfl⟩) (aF _)))))) (aI (aD cq)) pss_nil)
  (aK (aG 1 S.nd (aO eD (am aA (pv 0) ae) (am aA (pv 0) ae)))
  (aK (aG 2 S.nd (aq ay (by rfl) T.n_len QL (aa (am aA (pv 0) ae) ac)))
  (aI (aD (dw (mS mU mU ae (pv 2) (c_ (v:=.int 40) (by rfl) gMN ⟨_,rfl⟩)) (eC (aq (cW rfl) (by rfl) T.n_all XV (aa (dW "part" [("wires", 1),("many", 2)] (bi (am aA (pv 0) ae)) (λ_ _ _ _=>(aM f_is_node hr (aa (pv 0) (aa (pv 1) (aa (pv 2) ac ad) ad) ad)))) ac))))))))),?_⟩
 x_go;have w11:=fr.ok.w11;have lw:(sh.ins.map V.str).length+(sh.outs.map V.str).length=sh.ws.length:=by rw[Qb,Qb];unfold Sh.ws;rw[Qh]
 lk;refine⟨a,li,lo,ln,nas,sh,rfl,at_,fr,λH1 S1=>?_⟩;have at1:=at_.same S1;have ha1:=at1.ha;have hi1:=at1.hi;have ho1:=at1.ho;refine⟨_,rfl,iteF ?_⟩;lk;rw[Qb];refine ifF (Qu (by have:=fr.i4;omega)) ?_;lk;rw[Qb];refine ifF (Qu (by have:=fr.o7;omega)) ?_;lk;refine gv hi1 ho1 (by omega) λLw hLw=>?_;rw[<-QI];ctx_has H1 Lw H2 S2 q2 ak hLw;have q2:H2 Lw=some (.lst (sh.ws.map V.str)):=q2;have at2:=at1.same S2;have ha2:=at2.ha;have hn2:=at2.hn;have lnas:=av at2.nodes;lk;rw[Qb,lnas];refine lE ?_;lk;refine ifT (Qv (by have:=fr.ok.n1;omega)) ?_;lk;refine ifT (Qv (by have:=fr.n40;omega)) ?_;lk;refine bC (s_list (i_op (aE rfl (i_c (i_ixT ha2 rfl ⟨ln,rfl,⟨_,SqL.of hn2⟩,λL hL=>?_⟩)))));refine d8 (xs:=nas.map V.ref) (λn H' ys=>aj H2 H'/\H' L=some (.lst ys)/\ys=(List.replicate n true).map V.bl) ⟨aw hL,af,rfl⟩ (λn H' ys p=>⟨p.2.1,SqL.of (p.1 _ _ hn2)⟩) (λn x H' ys e p=>?_) (λH3 ys p=>?_)
 ·obtain⟨Sm,hd,rfl⟩:=p;have hn:n<(nas.map V.ref).length:=(Qd.mp e).1;rw[Qp]at e
  cases en:nas[n]? with
  | none=>rw[en]at e;cases e
  | some na =>
  rw[en]at e;cases e;obtain⟨node,hnode,hst⟩:=paired_get at2.nodes en;have hm:=Qk hnode;refine az ⟨by repeat' (first|exact trivial|refine⟨rfl,?_⟩),i_yes (cu ?_)⟩;refine i_call (aY (aE rfl (aY (aE rfl (aY (aE rfl (aZ ?_)))))));refine⟨na,Lw,sh.ws,node,sh.nodes.length,rfl,hst.same Sm,Sm _ _ q2,λp hp=>⟨fr.ok.names _ hm p hp,fr.ok.tos _ hm p hp⟩,fr.ndn _ hm,fr.ok.few _ hm,λH'' S''=>?_⟩;refine c8.mk (S'' _ _ hd) hn (by rw[Qb,X5];rw[Qb]at hn;have:=fr.n40;omega) ⟨bu (Sm.trans S'') hL,af,?_⟩;rw[List.replicate_succ',QI];rfl
 obtain⟨Sm,hd,rfl⟩:=p;refine aZ ⟨_,_,rfl,SqL.of hd,?_⟩;rw[jp];exact q H3 (S1.trans (S2.trans Sm))
theorem fD:FnScope ["sheet", "rows", "node"] ["sheet"] (au (top 23)):=by fin2
theorem sy (Fu:Fun K "has_one_row_each" "has_one_row_each" (top 23) f fd) (T:Txt K mg TT) (f_rows_found:Fn P w K mg base "rows_found" ["sheet"] 3 (kI TL)) (f_row_behind:Fn P w K mg base "row_behind" ["sheet", "row", "name"] 2 gG):FnOk P w K mg base CX0 4 f fd ["sheet"] (kJ TL):=by
 have S:=fD;refine Fu.ok S (by room) (λcdv A outer s H vs Q E hr h=>?_);obtain⟨a,li,lo,ln,nas,sh,rfl,at_,fr,tb,q⟩:=h;have hu:=cV hr;refine'⟨?_,?bb,?_⟩
 case bb =>
  walk_at "b";exact aG 1 S.nd (aM f_rows_found hr (aa (pv 0) ac ad));refine' uA ?_;rotate_left 1;walk_at "f";exact(mN (pv 1));exact(bB 2 S.nd);walk_at "p";exact(cz (cr (aq (cW rfl) (by rfl) T.n_all XV (aa (jQ (tgs:=["name", "to"]) (cap:=[("rows", 1),("sheet", 0),("node", 2)]) rfl ⟨rfl,rfl,rfl,rfl,rfl,rfl⟩ (bi (am aX (am aA (pv 0) ae) (pv 2))) (λ_ _ _ _=>(fo (K:=K) (n:=2) rfl rfl (aH (bw (i:=0) (show List.Nodup [("name" : Str),("to" : Str),("rows" : Str),("sheet" : Str),("node" : Str)] by decide +kernel) rfl (by z_go)) (aH (bw (i:=1) (show List.Nodup [("name" : Str),("to" : Str),("rows" : Str),("sheet" : Str),("node" : Str)] by decide +kernel) rfl (by z_go)) bL)))) (λ_ _ _ _=>dS) (λ_ _ _ _=>(bn cC (dL hu (pv 2) (pv 1)) (aM f_row_behind hr (aa (pv 3) (aa (dL hu (pv 2) (pv 4)) (aa (pv 0) ac ad)) ad)) (aF _)))) ac))));exact(aD cq);exact(aD cq)
 x_go;have ok:=fr.ok;lk;refine⟨a,li,lo,ln,nas,sh,rfl,at_,ok,tb,λR kvs H1 t1 hR hR1 rok=>?_⟩;kt_k;kt_k;have at1:ShAt H1 a li lo ln nas sh:=at_.mono (t1.lst tb) (t1.tup tb);refine ya (a:=R) (u:=.dK kvs) (.inl hR1) trivial λob=>?_;have h2:∀b,b≠R->upd H1 R (.frz ob (.dK kvs)) b=H1 b:=λb n=>ah n;have hR2:upd H1 R (.frz ob (.dK kvs)) R=some (.frz ob (.dK kvs)):=af;generalize upd H1 R (.frz ob (.dK kvs))=H2 at *;have l2:∀b xs,H1 b=some (.lst xs)->H2 b=some (.lst xs):=λb xs e=>by rw[h2 b (λz=>by rw[z,hR1]at e;cases e)];exact e
 have t2:∀b xs,H1 b=some (.tup xs)->H2 b=some (.tup xs):=λb xs e=>by rw[h2 b (λz=>by rw[z,hR1]at e;cases e)];exact e
 have at2:ShAt H2 a li lo ln nas sh:=at1.mono l2 t2
 -- as it was,behind the loop
 have fin:∀H',aj H2 H'->Tk TL H (back H1 R H'):=λH' S'=>by
  have bk:∀{b u},H1 b=some u->back H1 R H' b=some u:=λ{b u} e=>by
   by_cases c:b=R
   ·subst c;rw[fB];exact e
   rw[bJ c];exact S' b u (by rw[h2 b c];exact e)
  refine⟨λb u e n=>bk (t1.old b u e n),?_⟩;rcases t1.tab with e|⟨c,e,q⟩
  ·exact .inl (bk e)
  exact .inr ⟨c,bk e,bk q⟩
 have dget:∀{H':Hp},aj H2 H'->∀{i:Nat},sh.R i->cF H' R (.int (i:Int)) (some (.str (rho kvs i)))/\StOk sh.ws.length (rho kvs i)/\∀lam,Lab sh lam->lam i=rho kvs i:=λ{H'} S' {i} ri=>by
  obtain⟨y,hy,sty,ly⟩:=rok.inv.at (rok.all i ri);rw[uo hy];exact⟨.inl ⟨kvs,Sum.inl (i:Int),.inr ⟨ob,S' _ _ hR2⟩,rfl,hy.symm⟩,sty,ly⟩
 refine s_for (qI (aE rfl ⟨R,ob,kvs,rfl,hR2,?_⟩));let I26:IvF:=λj σ' H'=>∃x2:Option V,σ'=[some (.ref a),some (.ref R),x2]/\aj H2 H'/\∀j',j'<j->∀i:Nat,∀v,kvs[j']?=some (Sum.inl (i:Int),v)->∀p∈sh.node i,rho kvs p.2=b_ (rho kvs i) (sh.ws.idxOf p.1);refine nO I26 ⟨_,rfl,λ_ _ e=>e,λj' h=>absurd h (X8 _)⟩ (λj σ' H' _ pv=>?_) (λj ky vl σ' H' hj pv=>?_) (λσ' H' pv=>?_)
 ·obtain⟨_,_,S',_⟩:=pv;exact S' _ _ hR2
 ·obtain⟨x2,rfl,S',hp⟩:=pv;obtain⟨i,y,rfl,rfl,ri,_,_⟩:=rok.inv.sound ky vl (gX rok.inv.nd hj);have hil:=Sh.R_lt ok ri;have at':=at2.same S';have ha':=at'.ha;have hn':=at'.hn;obtain⟨na,hna,hst⟩:=bg at'.nodes (Qe hil);have enode:sh.node i=sh.nodes[i]:=Sh.node_of (Qe hil);rw[<-enode]at hst;obtain⟨vs,hvs,prs⟩:=hst;have lvs:=jJ prs;have few:=ok.few _ (Sh.node_mem hil);obtain⟨dg,sti,li'⟩:=dget S' ri;refine az ?_;kt_k;with_reducible refine i_not ?_
  with_reducible refine i_tB ?_
  with_reducible refine i_cb ?_
  with_reducible refine aY ?_
  refine bC (s_list (i_op (i_op (aE rfl (i_c (i_ixT ha' rfl (aE rfl (i_ixL (v:=.ref na) (SqL.of hn') (bK (by rw[Qp,hna];rfl)) ⟨na,rfl,⟨_,SqL.of hvs⟩,λL hL=>?_⟩))))))));let I27:IvC:=λn H'' ys=>aj H' H''/\H'' L=some (.lst ys)/\ys=(((sh.node i).take n).map λp=>decide (rho kvs p.2=b_ (rho kvs i) (sh.ws.idxOf p.1))).map V.bl;refine d8 (xs:=vs) I27 ⟨aw hL,af,by simp⟩ (λn H' ys p=>⟨p.2.1,SqL.of (p.1 _ _ hvs)⟩) (λn x H'' ys e p=>?_) (λH3 ys p=>?_)
  ·obtain⟨Sm,hd,rfl⟩:=p;obtain⟨p,b,hpn,rfl,hb⟩:=gE prs e;have hn:n<vs.length:=(Qd.mp e).1;have hpm:=Qk hpn;have rp:sh.R p.2:=.step ri (Qm.mpr ⟨p,hpm,rfl⟩);obtain⟨dgp,_,_⟩:=dget (S'.trans Sm) rp;obtain⟨dgi,_,_⟩:=dget (S'.trans Sm) ri;refine⟨b,_,rfl,SqT.of (Sm _ _ hb),rfl,_,_,rfl,az ⟨_,_,rfl,az ⟨rfl,by repeat' (first|exact trivial|refine⟨rfl,?_⟩),i_yes (cu ?_)⟩⟩⟩;refine i_op (i_dget (aE rfl (aE rfl ⟨R,_,rfl,dgp,?_⟩)));refine i_call (aY (aE rfl (aY (i_dget (aE rfl (aE rfl ⟨R,_,rfl,dgi,aY (aE rfl (aZ ?_))⟩))))));refine⟨a,li,lo,ln,nas,sh,rho kvs i,p.1,rfl,at'.same Sm,ok,sti,ok.names _ (Sh.node_mem hil) p hpm,λH5 S5=>?_⟩;refine i_eq rfl ?_;refine c8.mk (S5 _ _ hd) hn (by rw[Qb,Qb,QO];omega) ⟨bu (Sm.trans S5) hL,af,?_⟩;rw[XH,hpn,QI,QI]
   have e:decide (V.str (rho kvs p.2)=V.str (b_ (rho kvs i) (sh.ws.idxOf p.1)))=decide (rho kvs p.2=b_ (rho kvs i) (sh.ws.idxOf p.1)):=by
    rw[XR,XB,XB];exact⟨λh=>V.str.inj h,λh=>by rw[h]⟩
   rw[e];rfl
  obtain⟨Sm,hd,rfl⟩:=p;rw[lvs,QV (Qg _)]at hd;refine aZ ⟨_,_,rfl,SqL.of hd,_,rfl,?_⟩;by_cases c:(((sh.node i).map λp=>decide (rho kvs p.2=b_ (rho kvs i) (sh.ws.idxOf p.1))).all id)=true
  ·refine ifF (by rw[c];rfl) ?_;kt_k;refine⟨_,rfl,S'.trans Sm,λj' h i' v e p hp'=>?_⟩;by_cases cj:j'<j
   ·exact hp j' cj i' v e p hp'
   have:j'=j:=by omega
   subst this;rw[hj]at e;cases e;have:=QT.mp c _ (Qm.mpr ⟨p,hp',rfl⟩);exact Xu this
  refine ifT (by rw[Bool.eq_false_iff.mpr c];rfl) ?_;lk;refine⟨(S'.trans Sm) _ _ hR2,q false _ (fin _ (S'.trans Sm)) ⟨λz=>(nomatch z),λ⟨lam,lb⟩=>absurd (QT.mpr λx hx=>?_) c⟩⟩;obtain⟨p,hpm,rfl⟩:=Qm.mp hx;have rp:sh.R p.2:=.step ri (Qm.mpr ⟨p,hpm,rfl⟩);obtain⟨_,_,lp⟩:=dget S' rp;show decide _=true;rw[XB,<-lp lam lb,<-li' lam lb];exact lb.2 i ri p hpm
 obtain⟨x2,rfl,S',hp⟩:=pv;refine⟨S' _ _ hR2,?_⟩;lk;refine q true _ (fin _ S') ⟨λ_=>⟨rho kvs,uo rok.inv.zero,λi ri p hpm=>?_⟩,λ_=>rfl⟩;obtain⟨y,hy,_⟩:=rok.inv.at (rok.all i ri)
 obtain⟨j,hj⟩:∃j:Nat,kvs[j]?=some (Sum.inl (i:Int),V.str y):=by
  have hm:(Sum.inl (i:Int),V.str y)∈kvs:=by
   unfold aU at hy;rw[Q8]at hy;obtain⟨kv,h1,h2⟩:=hy;have h3:=List.find?_some h1;have h4:=List.mem_of_find?_eq_some h1;have h5:kv.1=Sum.inl (i:Int):=Xu h3;have:kv=(Sum.inl (i:Int),V.str y):=by rw[<-h5,<-h2]
   rw[<-this];exact h4
  obtain⟨j,hj,e⟩:=List.mem_iff_getElem.mp hm;exact⟨j,by rw[Qe hj,e]⟩
 exact hp j (Qd.mp hj).1 i _ hj p hpm
theorem mI:FnScope ["thing"] ["thing"] (au (top 24)):=by fin2
theorem pi (Fu:Fun K "is_sheet" "is_sheet" (top 24) f fd) (T:Txt K mg TT) (f_has_sheet_form:Fn P w K mg base "has_sheet_form" ["thing"] 5 kL) (f_has_one_row_each:Fn P w K mg base "has_one_row_each" ["sheet"] 4 (kJ TL)):FnOk P w K mg base CX0 6 f fd ["thing"] (kJ TL):=by
 have S:=mI;refine Fu.ok S (by room) (λcdv A outer s H vs Q E hr h=>?_);obtain⟨a,li,lo,ln,nas,sh,rfl,at_,fr,tb,q⟩:=h;refine⟨_,(aI (aD (dw (aM f_has_sheet_form hr (aa (pv 0) ac ad)) (eC (aM f_has_one_row_each hr (aa (pv 0) ac ad)))))),?_⟩;x_go;lk;refine⟨a,li,lo,ln,nas,sh,rfl,at_,fr,λH1 S1=>⟨_,rfl,cu ?_⟩⟩;lk;exact⟨a,li,lo,ln,nas,sh,rfl,at_.same S1,fr,c9 tb S1,λb H2 t2 hb=>q b H2 ((Tk.of tb S1).trans t2) hb⟩
end
section
open PySem.Spec PyProof.Rows
theorem ra:∀a b:List Nat,ltCps a b=false->ltCps b a=false->a=b
 | [],[],_,_=>rfl
 | [],_::_,h,_=>nomatch h
 | _::_,[],_,h=>nomatch h
 | x::a,y::b,h,g=>by
  simp only[ltCps,Bool.or_eq_false_iff,decide_eq_false_iff_not]at h g;have e:x=y:=by omega
  subst e;simp only[BEq.rfl,Bool.true_and]at h g;rw[ra a b h.2 g.2]
theorem q_:∀a b c:List Nat,ltCps b a=false->ltCps c b=false->ltCps c a=false
 | [],_,[],_,_=>rfl
 | [],_,_::_,_,_=>rfl
 | _::_,[],_,h,_=>nomatch h
 | _::_,_::_,[],_,h=>nomatch h
 | x::a,y::b,z::c,h,g=>by
  simp only[ltCps,Bool.or_eq_false_iff,decide_eq_false_iff_not]at h g ⊢;refine⟨by omega,?_⟩;by_cases e:z=x
  ·have e2:z=y:=by omega
   subst e;subst e2;simp only[BEq.rfl,Bool.true_and]at h g ⊢;exact q_ a b c h.2 g.2
  simp[e]
def leS (a b:Str):Prop:=ltCps b.cps.toList a.cps.toList=false
theorem vk {a b:Str} (h:leS a b) (g:leS b a):a=b:=by
 have:=ra _ _ g h;cases a;cases b;simpa using this
theorem iI:∀(r:List Str) (p:Str),risingS p r=true->(∀x∈r,leS p x)/\r.Pairwise leS
 | [],_,_=>⟨(λ_ h=>nomatch h),List.Pairwise.nil⟩
 | x::r,p,h=>by
  simp only[risingS,Xz,Bool.not_eq_true']at h;obtain⟨a,b⟩:=iI r x h.2;have px:leS p x:=h.1;refine⟨λy hy=>?_,List.Pairwise.cons a b⟩;rcases Qj.mp hy with e|hy
  ·rw[e];exact px
  exact q_ _ _ _ px (a y hy)
theorem oO:∀{r:List Str},sortedS r=true->r.Pairwise leS
 | [],_=>List.Pairwise.nil
 | x::r,h=>let ⟨a,b⟩:=iI r x h;List.Pairwise.cons a b
theorem vf:∀a b:List Nat,ltCps a b=decide (a<b)
 | [],[]=>by simp[ltCps]
 | [],_::_=>by simp[ltCps]
 | _::_,[]=>by simp[ltCps]
 | x::a,y::b=>by
  simp only[ltCps];rw[vf a b,XR];simp[List.cons_lt_cons_iff]
theorem w9 {t u:Tu} (h:leT t u):leS t.1 u.1:=by
 have h:Tm.lb [Sum.inr u.1,Sum.inr u.2] [Sum.inr t.1,Sum.inr t.2]=false:=h;rw[Tm.gn,Bool.or_eq_false_iff]at h;show ltCps u.1.cps.toList t.1.cps.toList=false;rw[vf];exact h.1
theorem kM {ts:List Tu} (so:ts.Pairwise leT) {ss:List Str} (pm:ss.Perm (ts.map (·.1))) (st:sortedS ss=true):ss=ts.map (·.1) :=
 List.Perm.eq_of_pairwise (le:=leS) (λ_ _ _ _ h g=>vk h g) (oO st) (Xv.mpr (so.imp λh=>w9 h)) pm
end
def dB (xs:List Nat):List Nat:=xs.foldl c7 [0]
theorem xI (m:List Nat) (i:Nat):m.length<=(c7 m i).length:=by
 unfold c7
 split
 ·exact Qg _
 rw[Qh];omega
theorem nP:∀(xs m:List Nat),m.length<=(xs.foldl c7 m).length
 | [],m=>Qg _
 | x::xs,m=>QJ (xI m x) (nP xs (c7 m x))
theorem wZ {xs ys:List Nat} (h:xs <+: ys):(dB xs).length<=(dB ys).length:=by
 obtain⟨zs,rfl⟩:=h;unfold dB;rw[List.foldl_append];exact nP _ _
theorem vb (xs:List Nat) (i:Nat):dB (xs++[i])=c7 (dB xs) i:=by unfold dB;rw[List.foldl_append];rfl
def cG (nds:List Nd):List Nat:=(nds.map λnd=>nd.map (·.2)).flatten
theorem we {nds:List Nd} {i:Nat} {nd:Nd} (h:nds[i]?=some nd) (j:Nat):cG (nds.take i)++(nd.map (·.2)).take j <+: cG nds:=by
 have hl:=(Qd.mp h).1
 have e:nds=nds.take i++nd::nds.drop (i+1):=by
  rw[<-(Qd.mp h).2,<-List.drop_eq_getElem_cons hl,X6]
 refine⟨(nd.map (·.2)).drop j++cG (nds.drop (i+1)),?_⟩
 have:cG nds=cG (nds.take i)++(nd.map (·.2)++cG (nds.drop (i+1))):=by
  conv=>lhs;rw[e]
  unfold cG;rw[QI,List.flatten_append,Qw,List.flatten_cons]
 rw[this,XX];congr 1;rw[<-XX,X6]
theorem tL {nd:Nd} (h:nds[i]?=some nd):cG (nds.take (i+1))=cG (nds.take i)++nd.map (·.2):=by
 rw[XH,h];unfold cG;rw[QI,List.flatten_append];simp
theorem xm {k:Nat}:∀{ns:List Nat},inV (.int (k:Int)) (ns.map λ(n:Nat)=>V.int (n:Int))=decide (k∈ns):=λ{ns}=>by
 rw[XR,XB];have:=eI (m:=(k:Int)) (ns:=ns.map λ(n:Nat)=>(n:Int));rw[Q3]at this;refine Iff.trans this ?_;rw[Qm]
 constructor
 ·rintro⟨a,ha,e⟩;obtain rfl:a=k:=by omega
  exact ha
 exact λh=>⟨k,h,rfl⟩
theorem kg (ns:List Nat):(ns.map λ(n:Nat)=>V.int (n:Int)).all bY=true:=by
 rw[QT];intro x hx;obtain⟨n,_,rfl⟩:=Qm.mp hx;rfl
theorem u4:∀(ys:List Str),inV .non (ys.map V.str)=false
 | []=>rfl
 | y::ys=>by
  have ih:=u4 ys;unfold inV at ih ⊢;rw[Qw,List.any_cons,ih];rfl
theorem ou:∀{us:List V},(∀v∈us,∃y,v=V.str y)->∃ys:List Str,us=ys.map V.str
 | [],_=>⟨[],rfl⟩
 | v::us,h=>by
  obtain⟨y,rfl⟩:=h v (by simp);obtain⟨ys,e⟩:=ou λv hv=>h v (Qn _ hv);exact⟨y::ys,by rw[e];rfl⟩
theorem SgsOk.strs (S:ShtP r ts ps nds) {us:List V} (sg:SgsOk (eW r nds) us):∃ys:List Str,us=ys.map V.str:=by
 refine ou λv hv=>?_;obtain⟨j,hj⟩:=List.getElem?_of_mem hv;have hl:=(Qd.mp hj).1;rw[sg.len]at hl;obtain⟨y,e,_⟩:=sg.row j (S.reach j (by rw[S.len];exact hl));rw[hj]at e;exact⟨y,QF e⟩
theorem lG (ys:List Str):(ys.map V.str).all bY=true:=by
 rw[QT];intro x hx;obtain⟨n,_,rfl⟩:=Qm.mp hx;rfl
theorem mY {nd:Nd} (n:(nd.map (·.1)).Nodup) (h:(x,i)∈nd):(aU (ca [] (d4 (nd.map λp=>(p.1,V.int (p.2:Int))))) (Sum.inr x:Key)).getD v=.int (i:Int):=by
 rw[u3 n h];rfl
theorem sT {ta:TA} (q:ta U H λvs H1=>∃(n:Nat),vs=[.int (n:Int)]/\n<=1000/\∀l,H1 l=none->Q (.ref l) (upd H1 l (.lst ((List.range n).map λ(i:Nat)=>V.int (i:Int))))):lZ ta U H Q:=q
def mf (TL:Addr):Sp:=λvs H Q _=>∃(a li lo l:Addr) (as:List V) (r:Rg) (s sli slo sln:Addr) (nas:B3) (ts:List Tu) (ps:List Pl) (nds:List Nd),vs=[.ref a,.ref s]/\RgA H a li lo l as r/\RgOk r/\RgX r/\ShAt H s sli slo sln nas (eW r nds)/\ShtP r ts ps nds/\Wt r ts/\cX TL bo H/\∀H',Tk TL H H'->Q (.bl true) H'
theorem ShtP.frm (S:ShtP r ts ps nds) (ok:RgOk r) (x:RgX r) (wt:Wt r ts):Frm (eW r nds):=by
 have w5:=ok.w5;unfold Rg.ws at w5;rw[Qh]at w5;refine⟨S.shok ok wt,by show nds.length<=40;rw[<-S.len];exact S.l40,x.i4,x.o1,by show r.outs.length<=7;omega,λn hn=>⟨(x.low n hn).pos,(x.low n hn).l8,(x.low n hn).lw⟩,λnode hn=>?_⟩;obtain⟨i,hi⟩:=List.getElem?_of_mem hn;have hi:nds[i]?=some node:=hi;have il:=(Qd.mp hi).1;have e:=S.node i _ (Qe (by rw[S.len];exact il));rw[hi]at e;rw[QF e];exact S.names ok wt (Q9 _)
section
theorem fR:FnScope ["ring", "sheet", "met", "node", "names", "name", "to", "other", "there", "one", "more"] ["ring", "sheet"] (au (top 45)):=by fin2
theorem sD {TL:Addr} {f:Addr} {fd:FuncData} (Fu:Fun K "_law_sheet_right" "_law_sheet_right" (top 45) f fd) (T:Txt K mg TT) (f_is_sheet:Fn P w K mg base "is_sheet" ["thing"] 6 (kJ TL)) (f_signs_of:Fn P w K mg base "signs_of" ["sheet"] 4 (qy TL)):FnOk P w K mg base CX0 7 f fd ["ring", "sheet"] (mf TL):=by
 have S:=fR;refine Fu.ok S (by room) (λcdv A outer s H vs Q E hr h=>?_);obtain⟨a,li,lo,l,as,r,s,sli,slo,sln,nas,ts,ps,nds,rfl,at_,ok,rx,sa,sp,wt,tb,k⟩:=h;have hu:=cV hr;have ha:=at_.ha;refine'⟨?_,?bb,?_⟩
 case bb =>
  walk_at "b";exact(PW.pt (dR (cz (cr (aM f_is_sheet hr (aa (pv 1) ac ad)))) (dv (aC (pc hr.units) (bU uf (pv 1) cB (cA ae)) (bU uf (pv 0) cB (cA ae)) (aF _)))));exact(aD cq);exact(aC df o8 (aM f_signs_of hr (aa (pv 1) ac ad)) rfl);exact(aD cq);exact aG 2 S.nd (pe_lst (aa ae ac aP));walk_at "f";exact(bi (am aA (pv 1) ae));exact(bB 3 S.nd);walk_at "p";exact(mK (j:=4) S.nd rfl (by z_go) (tgs:=["name", "to"]) (cap:=[]) rfl ⟨rfl,rfl,rfl,rfl,rfl,rfl⟩ (bi (pv 3)) (λ_ _ _ _=>(fo (K:=K) (n:=2) rfl rfl (aH (bw (i:=0) (show List.Nodup [("name" : Str),("to" : Str)] by decide +kernel) rfl (by z_go)) (aH (bw (i:=1) (show List.Nodup [("name" : Str),("to" : Str)] by decide +kernel) rfl (by z_go)) bL)))) (λ_ _ _ _=>dS) (λ_ _ _ _=>(pv 0)));exact(aC (kZ hr.units) (pv 4) (aq oi (by rfl) T.n_sorted PyProof.Rows.boot_sorted (aa (pv 4) ac ad)) (aF _));exact(aD cq);walk_at "f";exact(bi (pv 3));exact(dQ rfl (aH (bB 5 S.nd) (aH (bB 6 S.nd) bL)));walk_at "p";exact(aC gg (pv 6) (pv 2) rfl);exact(bZ (bO QE Q0 Q2 bt (pv 2) (aa (pv 6) ac ad)));walk_at "f";exact(bi (pv 3));exact(dQ rfl (aH (bB 7 S.nd) (aH (bB 8 S.nd) bL)));walk_at "p";exact aG 9 S.nd (mR hu (jR rfl (by rfl) T.n_dict (aa (am aX (am aA (pv 1) ae) (pv 6)) ac)) (pv 7) (mO iu ae) ⟨rfl,rfl,rfl,rfl⟩);exact aG 10 S.nd (mR hu (jR rfl (by rfl) T.n_dict (aa (am aX (am aA (pv 1) ae) (pv 8)) ac)) (pv 5) (mO iu ae) ⟨rfl,rfl,rfl,rfl⟩);exact(PW.pt (oX (aC iQ (pv 7) (pv 5) (aF _)) (kX (aC iQ (pv 9) (pv 10) (aF _)))));exact(aD cq);exact(aD (bn (pf hr.units) (pv 2) (o_ rfl (by rfl) T.n_list (by rfl) T.n_range (aa (aq ay (by rfl) T.n_len QL (aa (am aA (pv 1) ae) ac)) ac se_call)) (aF _)))
 x_go;have w5:=ok.w5;have frm:=sp.frm ok rx wt;have lab:=sp.lab ok wt;have tfew:=Wt.few ok wt;lk;refine⟨s,sli,slo,sln,nas,eW r nds,rfl,sa,frm,tb,λb H1 tk1 hb=>?_⟩;obtain rfl:b=true:=hb.mpr ⟨_,lab⟩;have at1:=at_.tk tb tk1;have sa1:=sa.tk tb tk1;have tb1:=tk1.tab;lk;refine ifF rfl ?_;lk;refine⟨s,_,rfl,SqT.of sa1.ha,(show ¬(HT.sIx 4 0 none=0/\HT.sIx 4 4 (some 3)=4) by decide),λq1 h1=>?_⟩;generalize hE:upd H1 q1 _=H2;obtain⟨S2,e1⟩:=ak h1 hE;lk;refine⟨a,_,rfl,SqT.of (S2 _ _ at1.ha),(show ¬(HT.sIx 4 0 none=0/\HT.sIx 4 4 (some 3)=4) by decide),λq2 h2=>?_⟩;generalize hE:upd H2 q2 _=H3;obtain⟨S3,e2⟩:=ak h2 hE;have S13:=S2.trans S3;have at3:=at1.same S13;have sa3:=sa1.same S13;have tb3:=c9 tb1 S13;refine yo (SqT.of (S3 _ _ e1)) (SqT.of e2) rfl (λj x y ex ey=>?_) ⟨_,rfl,ifF rfl ?_⟩
 ·match j,ex,ey with
  | 0,ex,ey=>cases ex;cases ey;exact nU (SqL.of sa3.hi) (SqL.of at3.hi) rfl (gT (lG _))
  | 1,ex,ey=>cases ex;cases ey;exact nU (SqL.of sa3.ho) (SqL.of at3.ho) rfl (gT (lG _))
  | 2,ex,ey=>cases ex;cases ey;exact gy rfl
 lk;refine⟨s,sli,slo,sln,nas,eW r nds,rfl,sa3,frm.ok,tb3,λsl us H4 tk4 hsl qsl sg=>?_⟩;obtain⟨ys,rfl⟩:=sg.strs sp;have sa4:=sa3.tk tb3 tk4;have tk14:Tk TL H H4:=(tk1.trans (Tk.of tb1 S13)).trans tk4;refine⟨sl,_,rfl,.inl (SqL.of qsl),rfl,lG _,_,rfl,?_⟩;rw[u4];refine ifF rfl ?_;clear S13 at3 sa3 tb3 e1 e2 S2 S3 at1 sa1 tb1 tk4 tk1 hE h1 h2 sg hsl qsl;lk;refine⟨by simp[sizeLine],λM hM=>?_⟩;generalize hE:upd H4 M _=H5;obtain⟨S5,qM⟩:=ak hM hE;have sa5:=sa4.same S5;have qM:H5 M=some (.lst ((dB []).map λ(n:Nat)=>V.int (n:Int))):=qM;clear hE;kt_k;have hs5:=sa5.ha;have lns:=av sa5.nodes;have lnd:=sp.len;have l40:=sp.l40;have metT:dB (cG nds)=List.range ps.length:=sp.met;lk;refine⟨sln,rfl,⟨_,SqL.of sa5.hn⟩,?_⟩;let I28:IvF:=λi U H'=>∃(y3 y4 y5 y6 y7 y8 y9 y10:Option V),U=[some (.ref a),some (.ref s),some (.ref M),y3,y4,y5,y6,y7,y8,y9,y10]/\aj H4 H'/\H' M=some (.lst ((dB (cG (nds.take i))).map λ(n:Nat)=>V.int (n:Int)));refine cE (xs:=nas.map V.ref) I28 ⟨_,_,_,_,_,_,_,_,rfl,S5,qM⟩ (λi U H' _ ⟨_,_,_,_,_,_,_,_,_,S',_⟩=>SqL.of (sa4.same S').hn) (λi v U H' ev h=>?_) (λU H' h=>?_)
 ·obtain⟨y3,y4,y5,y6,y7,y8,y9,y10,rfl,S',hM'⟩:=h;rw[Qp]at ev;obtain⟨na,ena,rfl⟩:=Q8.mp ev
  have il:i<nds.length:=by
   have:=(Qd.mp ena).1;have e:(eW r nds).nodes.length=nds.length:=rfl;omega
  have gp:=Qe (l:=ps) (i:=i) (by omega);have nodeq:=sp.node i _ gp;have pm:=Q9 (l:=ps) (n:=i) (by omega);generalize ps[i]=p at gp nodeq pm;have po:=sp.ok p pm;obtain⟨na',nvs,hna,hnv4,pn4⟩:=sa4.nd (show (eW r nds).nodes[i]?=_ from nodeq);rw[Qp,ena]at hna;cases hna;have hnv:=S' _ _ hnv4;have pn:=ag (λ_ _ h=>SgA.kt (aj.tups S') h) pn4;have pnl:=av pn;have pnl2:(br r ts ps p).length<=10:=by unfold br;rw[Qb];exact QJ (XU _ _) tfew
  kt_k;lk;refine bC (s_list (aE rfl ⟨na,rfl,⟨_,SqL.of hnv⟩,λL1 hL1=>?_⟩));refine eK (λ_=>true) (λH v (t:Str × Nat)=>v=.str t.1) hL1 hnv pn (by omega) (λH H' v x k h=>h) (λv t G it mt S' GG N hG _=>?_) (λG1 zs T1 hz pz=>?_)
  ·obtain⟨b,rfl,hb⟩:=it.kt (aj.tups S');refine⟨b,_,rfl,SqT.of hb,rfl,_,_,rfl,az ⟨_,_,rfl,az ⟨rfl,trivial,i_yes (cu ?_)⟩⟩⟩;lk;exact hG rfl _ G (aj.refl _) rfl
  rw[cN]at pz;have e:zs=((ts.filter (cK r.arcs p.1)).map (·.1)).map V.str:=by rw[cI pz];unfold br;rw[Q3,Q3];rfl
  subst e;lk;refine⟨L1,_,rfl,hz,by rw[Qb];have:=XU (cK r.arcs p.1) ts;omega,λq ss hq pms st=>?_⟩;rw[kM (wt.so.filter _) pms st];generalize hE:upd G1 q _=G2;obtain⟨T2,qq⟩:=ak hq hE;refine vI (T2 _ _ hz) qq ⟨_,rfl,ifF rfl ?_⟩;have T12:=T1.trans T2;have S2:=S'.trans T12;have hM2:=T12 _ _ hM';clear hE T1 T2 hz qq hq hL1 pz hM' hnv pn T12 S';kt_k;lk;refine⟨na,rfl,⟨_,SqL.of (S2 _ _ hnv4)⟩,?_⟩;let I29:IvF:=λj U H'=>∃(y5 y6 y7 y8 y9 y10:Option V),U=[some (.ref a),some (.ref s),some (.ref M),some (.ref na),some (.ref L1),y5,y6,y7,y8,y9,y10]/\aj H4 H'/\H' M=some (.lst ((dB (cG (nds.take i)++((br r ts ps p).map (·.2)).take j)).map λ(n:Nat)=>V.int (n:Int)));refine cE (xs:=nvs) I29 ⟨_,_,_,_,_,_,rfl,S2,by rw[List.take_zero,List.append_nil];exact hM2⟩ (λj U H' _ ⟨_,_,_,_,_,_,_,S',_⟩=>SqL.of (S' _ _ hnv4)) (λj v U H' ev2 h=>?_) (λU H' h=>?_)
  ·obtain⟨y5,y6,y7,y8,y9,y10,rfl,S',hM'⟩:=h;obtain⟨en,een,sgn⟩:=paired_get pn4 ev2;have een':=een;unfold br at een';rw[Qp]at een';obtain⟨t,ft,et⟩:=Q8.mp een';obtain⟨mt,may⟩:=QW.mp (Qk ft);obtain⟨b,rfl,hb⟩:=sgn.kt (aj.tups S');subst et;have mpre:=we (nds:=nds) (i:=i) (nd:=br r ts ps p) nodeq
   have mlen:(dB (cG (nds.take i)++((br r ts ps p).map (·.2)).take j)).length<=40:=by
    have:=wZ (mpre j);rw[metT,List.length_range]at this;omega
   have msucc:dB (cG (nds.take i)++((br r ts ps p).map (·.2)).take (j+1))=c7 (dB (cG (nds.take i)++((br r ts ps p).map (·.2)).take j)) (ps.idxOf (aW r p t).2):=by
    rw[<-vb,XX,XH,Qp,een];rfl
   refine⟨b,_,rfl,SqT.of hb,rfl,_,_,rfl,az ⟨_,_,rfl,az ⟨rfl,?_⟩⟩⟩;let I30:IvJ:=λU G=>U=[some (.ref a),some (.ref s),some (.ref M),some (.ref na),some (.ref L1),some (.str t.1),some (.int (ps.idxOf (aW r p t).2:Nat)),y7,y8,y9,y10]/\aj H4 G/\G M=some (.lst ((dB (cG (nds.take i)++((br r ts ps p).map (·.2)).take (j+1))).map λ(n:Nat)=>V.int (n:Int)));with_reducible refine cT I30 (λRR hJ=>?_) (λU G h=>?_)
   ·lk;refine⟨M,_,rfl,.inl (SqL.of hM'),rfl,kg _,_,rfl,?_⟩;rw[xm];by_cases c:ps.idxOf (aW r p t).2∈dB (cG (nds.take i)++((br r ts ps p).map (·.2)).take j)
    ·rw[Qv c];refine ifF rfl (s_next (hJ _ _ ⟨rfl,S',?_⟩));rw[msucc];unfold c7;rw[Qs c];exact hM'
    rw[Qu c];refine ifT rfl ?_;lk;refine eQ hM' (by rw[Qb];omega) ?_;refine hJ _ _ ⟨rfl,bu S' hM,?_⟩;rw[af,msucc];unfold c7;rw[Qo c,QI];rfl
   obtain⟨rfl,SG,hMG⟩:=h;lk;refine⟨na,rfl,⟨_,SqL.of (SG _ _ hnv4)⟩,?_⟩;have gt:=sp.to_ pm mt may;have mq:=Qk gt;obtain⟨na2,nvs2,hna2,hnv2,pn2⟩:=sa4.nd (show (eW r nds).nodes[ps.idxOf (aW r p t).2]?=_ from sp.node _ _ gt);have pl2:=av pn2;have pl3:(br r ts ps (aW r p t).2).length<=10:=by unfold br;rw[Qb];exact QJ (XU _ _) tfew
   let I31:IvF:=λk U H'=>∃(y7 y8 y9 y10:Option V),U=[some (.ref a),some (.ref s),some (.ref M),some (.ref na),some (.ref L1),some (.str t.1),some (.int (ps.idxOf (aW r p t).2:Nat)),y7,y8,y9,y10]/\aj G H';refine cE (xs:=nvs) I31 ⟨_,_,_,_,rfl,aj.refl _⟩ (λk U H' _ ⟨_,_,_,_,_,S'⟩=>SqL.of (S' _ _ (SG _ _ hnv4))) (λk v U H' ev3 h=>?_) (λU H' h=>?_)
   ·obtain⟨y7,y8,y9,y10,rfl,SH⟩:=h;have S4:=SG.trans SH;obtain⟨en3,een3,sgn3⟩:=paired_get pn4 ev3;unfold br at een3;rw[Qp]at een3;obtain⟨u,fu,eu⟩:=Q8.mp een3;obtain⟨mu,muy⟩:=QW.mp (Qk fu);obtain⟨b3,rfl,hb3⟩:=sgn3.kt (aj.tups S4);subst eu;have gu:=sp.to_ pm mu muy;obtain⟨na3,nvs3,hna3,hnv3,pn3⟩:=sa4.nd (show (eW r nds).nodes[ps.idxOf (aW r p u).2]?=_ from sp.node _ _ gu);have pl4:=av pn3;have pl5:(br r ts ps (aW r p u).2).length<=10:=by unfold br;rw[Qb];exact QJ (XU _ _) tfew
    have saH:=sa4.same S4;have hsH:=saH.ha;refine⟨b3,_,rfl,SqT.of hb3,rfl,_,_,rfl,az ⟨_,_,rfl,az ⟨rfl,?_⟩⟩⟩;lk;refine rj (nH ?_);lk;refine i_ixL (SqL.of saH.hn) (bK hna2) ?_;refine aZ ⟨na2,nvs2,_,rfl,SqL.of (S4 _ _ hnv2),by omega,mX (ag (λ_ _ h=>SgA.kt (aj.tups S4) h) pn2),λd1 hd1=>?_⟩;generalize hE:upd H' d1 _=H6;obtain⟨S6,qd1⟩:=ak hd1 hE;refine⟨d1,rfl,.inl ⟨_,.inl qd1⟩,?_⟩;lk;refine⟨_,cF.k (k:=Sum.inr u.1) qd1,?_⟩;have S46:=S4.trans S6;have sa6:=sa4.same S46;have hs6:=sa6.ha;lk;refine rj (nH ?_);lk;refine i_ixL (SqL.of sa6.hn) (bK hna3) ?_;refine aZ ⟨na3,nvs3,_,rfl,SqL.of (S46 _ _ hnv3),by omega,mX (ag (λ_ _ h=>SgA.kt (aj.tups S46) h) pn3),λd2 hd2=>?_⟩;generalize hE:upd H6 d2 _=H7;obtain⟨S7,qd2⟩:=ak hd2 hE;refine⟨d2,rfl,.inl ⟨_,.inl qd2⟩,?_⟩;lk;refine⟨_,cF.k (k:=Sum.inr t.1) qd2,?_⟩;have S47:=S46.trans S7
    have two:u.1≠t.1->∃x,(aU (ca [] (d4 ((br r ts ps (aW r p t).2).map λp=>(p.1,V.int (p.2:Int))))) (Sum.inr u.1:Key)).getD (.int (-1))=.int x/\(aU (ca [] (d4 ((br r ts ps (aW r p u).2).map λp=>(p.1,V.int (p.2:Int))))) (Sum.inr t.1:Key)).getD (.int (-2))=.int x:=λc=>by
     obtain⟨h1,h2⟩:=sp.two ok wt pm mt may mu muy (λz=>c (by rw[z]));exact⟨_,mY (sp.names ok wt mq) h1,mY (sp.names ok wt (Qk gu)) h2⟩
    by_cases c:u.1=t.1
    ·lk;refine ifF (by rw[Qv (by rw[c])];rfl) ?_;exact iteF (s_next ⟨_,_,_,_,rfl,SH.trans (S6.trans S7)⟩)
    obtain⟨x,h1,h2⟩:=two c;rw[h1,h2];lk;refine ifT (by rw[Qu (λz=>c (V.str.inj z))];rfl) ?_;lk;refine ifF (by rw[Qv rfl];rfl) (s_next ⟨_,_,_,_,rfl,SH.trans (S6.trans S7)⟩)
   obtain⟨y7,y8,y9,y10,rfl,SH⟩:=h;exact⟨_,_,_,_,_,_,rfl,SG.trans SH,SH _ _ hMG⟩
  obtain⟨y5,y6,y7,y8,y9,y10,rfl,S',hM'⟩:=h;refine⟨_,_,_,_,_,_,_,_,rfl,S',?_⟩;have e:((br r ts ps p).map (·.2)).take nvs.length=(br r ts ps p).map (·.2):=QV (by rw[Qb];omega);rw[e,<-tL nodeq]at hM';exact hM'
 obtain⟨y3,y4,y5,y6,y7,y8,y9,y10,rfl,S',hM'⟩:=h;have e:nds.take (nas.map V.ref).length=nds:=QV (by rw[Qb];have e:(eW r nds).nodes.length=nds.length:=rfl;omega);rw[e,metT]at hM';have sa':=sa4.same S';have hs':=sa'.ha;lk;refine sT ?_;lk;refine⟨_,_,rfl,.inl (SqL.of sa'.hn),?_⟩;lk
 have el:nas.length=ps.length:=by
  have e:(eW r nds).nodes.length=nds.length:=rfl;omega
 refine⟨nas.length,by rw[Qb],by omega,λq hq=>?_⟩;rw[el];refine AQ (SqL.of (aw hq _ _ hM')) (SqL.of af) rfl (gT (kg _)) ?_;exact k _ ((tk14.trans (Tk.of tk14.tab S')).trans (Tk.of (c9 tk14.tab S') (aw hq)))
end
def qD (K:PySem.W.Frag) (TL:Addr):Sp:=λvs H Q _=>∃(a:Addr) (ns:List Int),vs=[.ref a]/\SqL K H a (ns.map V.int)/\ns.length<=63/\cX TL bo H/\∀H',Q (.bl true) H'
section
theorem yN:FnScope ["script", "k", "pool", "ring", "found"] ["script"] (au (top 46)):=by fin2
theorem uX {TL:Addr} {f:Addr} {fd:FuncData} (Fu:Fun K "law" "law" (top 46) f fd) (T:Txt K mg TT) (f_law_pool:Fn P w K mg base "_law_pool" ["script", "k"] 1 (t8 K)) (f_law_ring:Fn P w K mg base "_law_ring" ["pool"] 3 t7) (f_unfolded:Fn P w K mg base "unfolded" ["ring_sheet"] 5 xW) (f_law_sheet_right:Fn P w K mg base "_law_sheet_right" ["ring", "sheet"] 7 (mf TL)) (f_law_odd_right:Fn P w K mg base "_law_odd_right" ["ring", "turns", "word"] 5 ud):FnOk P w K mg base CX0 8 f fd ["script"] (qD K TL):=by
 have S:=yN;refine Fu.ok S (by room) (λcdv A outer s H vs Q E hr h=>?_);obtain⟨sc,cells,rfl,hS,hlen,tb,k⟩:=h;refine'⟨?_,?bb,?_⟩
 case bb =>
  walk_at "b";walk_at "f";exact(dU (by rfl) T.n_range (aa (aq (tj rfl) (by rfl) T.n_max PyProof.Rows.boot_max (aa ae (aa (aq (kj rfl) (by rfl) T.n_min PyProof.Rows.boot_min (aa ae (aa (aq ay (by rfl) T.n_len QL (aa (pv 0) ac ad)) ac se_call) aP)) ac se_call) aP)) ac se_call));exact(bB 1 S.nd);walk_at "p";exact aG 2 S.nd (aM f_law_pool hr (aa (pv 0) (aa (pv 1) ac ad) ad));exact aG 3 S.nd (aM f_law_ring hr (aa (pv 2) ac ad));exact aG 4 S.nd (aM f_unfolded hr (aa (pv 3) ac ad));exact(aC cC (am aA (pv 4) ae) bj (aF _));exact(PW.pt (dR (aC iQ (aq ay (by rfl) T.n_len QL (aa (pv 4) ac ad)) ae (aF _)) (dv (cz (cr (aM f_law_sheet_right hr (aa (pv 3) (aa (am aA (pv 4) ae) ac) ad)))))));exact(aD cq);exact(aC cC (am aA (pv 4) ae) bj (aF _));exact(PW.pt (dR (aC iQ (aq ay (by rfl) T.n_len QL (aa (pv 4) ac ad)) ae (aF _)) (dv (cz (cr (aM f_law_odd_right hr (aa (pv 3) (aa (am aA (pv 4) ae) (aa (am aA (pv 4) ae) ac)) ad)))))));exact(aD cq);exact(aC (pc hr.units) (pv 4) (pe_tup (aa bj ac aP)) (aF _));exact(aD cq);exact(aD cq)
 x_go;lk;refine⟨_,_,rfl,Or.inl hS,?_⟩;lk;refine⟨_,_,rfl,?_⟩;lk;refine⟨_,_,rfl,?_⟩;rw[Qb]
 obtain⟨N,hN,N6⟩:∃N:Nat,(if (if (cells.length:Int)<5 then (cells.length:Int) else 5)>1 then (if (cells.length:Int)<5 then (cells.length:Int) else 5) else 1)=(N:Int)/\N<=5:=by
  by_cases h2:(cells.length:Int)<5
  ·rw[Qs h2];by_cases h1:(cells.length:Int)>1
   ·rw[Qs h1];exact⟨cells.length,rfl,by omega⟩
   rw[Qo h1];exact⟨1,rfl,by omega⟩
  rw[Qo h2,Qs (by decide)];exact⟨5,rfl,by omega⟩
 rw[hN];lk;refine⟨by omega,by omega,?_⟩;rw[Q7];refine gS (n:=N) (λi U H'=>(∃x1 x2 x3 x4,U=[some (.ref sc),x1,x2,x3,x4])/\SqL K H' sc (cells.map V.int)/\cX TL bo H') ⟨⟨_,_,_,_,rfl⟩,hS,tb⟩ (λi U H0 hi pv=>?_) (λU H' pv=>?_)
 ·clear hS tb;obtain⟨⟨x1,x2,x3,x4,rfl⟩,hS,tb⟩:=pv;refine az ?_;lk;refine⟨sc,cells,i,by rw[Int.zero_add],hS,by omega,λD H1 dn S1 D0 DA1=>?_⟩;lk;refine⟨D,rfl,DA1,by omega,λa li lo l as r H2 k2 _ at2 ok full rx=>?_⟩;have tb2:=zU (c9 tb S1) DA1 k2 rfl;have hS2:SqL K H2 sc (cells.map V.int):=ig hS λo e=>k2.old _ _ (S1 _ _ e) (λz=>ao e D0 z);have DA2:=k2.dk;have q2:∀o,H0 sc=some o->H2 sc=some o/\sc≠D.d:=λo e=>⟨k2.old _ _ (S1 _ _ e) (λz=>ao e D0 z),ao e D0⟩;clear k2 S1 DA1 tb;lk;refine⟨a,li,lo,l,as,r,rfl,at2,ok,λvd ts H3 S3 wt rd=>?_⟩;have at3:=at2.same S3;have DA3:=DA2.same S3;have tb3:=c9 tb2 S3;have hS3:SqL K H3 sc (cells.map V.int):=ig hS2 λo e=>S3 _ _ e;clear hS2 tb2 DA2 at2
  cases eU:unf r ts with
  | odd way word =>
   rw[eU]at rd;obtain⟨v,t,rfl,vl,od⟩:=wc ok wt eU;obtain⟨fa,fl,rfl,hfa,_,wy⟩:=rd;lk;refine ifF (Qu (λz=>by have:=V.str.inj z;revert this;decide +kernel)) ?_;lk;refine ifT (Qv rfl) ?_;lk;refine⟨fa,_,rfl,.inr (SqT.of hfa),?_⟩;lk;refine ifF rfl ?_;lk;refine⟨a,li,lo,l,fl,as,r,ts,v,t,word,rfl,at3,ok,wt,wy,by omega,od,λH5 S5=>?_⟩;refine⟨_,rfl,ifF rfl (s_next ⟨⟨_,_,_,_,rfl⟩,ig hS3 λo e=>S5 _ _ e,c9 tb3 S5⟩)⟩
  | many =>
   rw[eU]at rd;obtain⟨fa,rfl,hfa⟩:=rd;lk;refine ifF (Qu (λz=>by have:=V.str.inj z;revert this;decide +kernel)) ?_;lk;refine ifF (Qu (λz=>by have:=V.str.inj z;revert this;decide +kernel)) ?_;lk;refine⟨by simp[sizeLine],λp hp=>?_⟩;have S5:=aw (o:=.tup [.str "many"]) hp;refine yo (SqT.of (S5 _ _ hfa)) (SqT.of af) rfl (λj x y e1 e2=>by rw[e1]at e2;cases e2;exact gy (QT.mp (rfl:([.str "many"]:List V).all bY=true) _ (Qk e1))) ⟨_,rfl,ifF rfl (s_next ⟨⟨_,_,_,_,rfl⟩,ig hS3 λo e=>S5 _ _ e,c9 tb3 S5⟩)⟩
  | sheet nds =>
  rw[eU]at rd;obtain⟨ps,sp⟩:=rN ok wt eU;obtain⟨fa,s,sli,slo,sln,nas,rfl,hfa,sa,_,_⟩:=rY rd;lk;refine ifT (Qv rfl) ?_;lk;refine⟨fa,_,rfl,.inr (SqT.of hfa),?_⟩;lk;refine ifF rfl ?_;lk;refine⟨a,li,lo,l,as,r,s,sli,slo,sln,nas,ts,ps,nds,rfl,at3,ok,rx,sa,sp,wt,tb3,λH5 tk5=>?_⟩;refine⟨_,rfl,ifF rfl (s_next ⟨⟨_,_,_,_,rfl⟩,tY tb3 hS3 λo e n=>tk5.old _ _ e n,tk5.tab⟩)⟩
 obtain⟨⟨x1,x2,x3,x4,rfl⟩,_⟩:=pv;lk;exact k H'
end
end K2
namespace K2
open PySem L2 PySem.Spec PyProof.Rows
theorem vi {A:Type} {us:List A} (h:us.length=1):∃a0,us=[a0]:=by
 match us,h with
 | [a0],_=>exact⟨_,rfl⟩
theorem AH {A:Type} {us:List A} (h:us.length=2):∃a0 a1,us=[a0,a1]:=by
 match us,h with
 | [a0,a1],_=>exact⟨_,_,rfl⟩
theorem AG {A:Type} {us:List A} (h:us.length=3):∃a0 a1 a2,us=[a0,a1,a2]:=by
 match us,h with
 | [a0,a1,a2],_=>exact⟨_,_,_,rfl⟩
structure FX (K:PySem.W.Frag) (n:Str) (i:Nat) (f:Addr) (cd:Value):Prop where
 a:PySem.W.nsIn K mainGlobals n=some (some (.ref f))
 l:∃oc od kV dc pm an ct sl,K.lookup f=some ⟨oc,od,.func (PySem.W.fnOf n n (cQ (top i)) (b9 (top i)) (au (top i)) .none kV dc pm an cd ct),sl⟩
 c:PySem.W.codeIn K cd n=true
 k:PySem.W.keepIn K (.ref f)=true
variable {f fa TL0:Addr}
theorem FX.fn {K:PySem.W.Frag} {n:Str} {i:Nat} {cd:Value} {h:Heap} {mg:B2} (X:K.In h) (G:h.Ns mainGlobals mg) (x:FX K n i f cd):∃fd,Fun K n n (top i) f fd/\mg n=some (.ref f):=by
 obtain⟨a,⟨_,_,_,_,_,_,_,_,l⟩,c,k⟩:=x;exact⟨_,pR (st:=top i) l c k,Zc X G a⟩
abbrev ZN (K:PySem.W.Frag) (n:Str):Prop:=PySem.W.nsIn K mainGlobals n=some none
theorem bn1 {p:List Value->Prop} (h:∀a0,p [a0]) (us:List Value) (hl:us.length=1):p us:=by
 obtain⟨a0,e⟩:=vi hl;subst e;exact h a0
theorem bn2 {p:List Value->Prop} (h:∀a0 a1,p [a0,a1]) (us:List Value) (hl:us.length=2):p us:=by
 obtain⟨a0,a1,e⟩:=AH hl;subst e;exact h a0 a1
theorem bn3 {p:List Value->Prop} (h:∀a0 a1 a2,p [a0,a1,a2]) (us:List Value) (hl:us.length=3):p us:=by
 obtain⟨a0,a1,a2,e⟩:=AG hl;subst e;exact h a0 a1 a2
theorem FX.go (P:Program) (w:World) (base:Heap) {K:PySem.W.Frag} {n:Str} {i k:Nat} {cd:Value} {h:Heap} {mg:B2} {ps:List Str} {sp:Sp} (X:K.In h) (G:h.Ns mainGlobals mg) (x:FX K n i f cd) (o:∀fd,Fun K n n (top i) f fd->mg n=some (.ref f)->jr K fd ps []->FnOk P w K mg base CX0 k f fd ps sp)
  (hb:∀(kV doc pm:Value) (an:Option Addr) (cdv ct:Value) (us:List Value),us.length=ps.length->bindArgs (PySem.W.fnOf n n (cQ (top i)) (b9 (top i)) (au (top i)) .none kV doc pm an cdv ct) ⟨us,[]⟩=pure (ps.zip us):=by intro _ _ _ _ _ _;first|exact bn1 λ_=>rfl|exact bn2 λ_ _=>rfl|exact bn3 λ_ _ _=>rfl):Fn P w K mg base n ps k sp:=by
 obtain⟨fd,F,m⟩:=x.fn X G;have b:=F.binds hb;exact⟨f,fd,o fd F m b,m,x.k,b⟩
theorem zN {l:PySem.W.OpenLaw} {w:World} {K:PySem.W.Frag} {h:Heap} {mg:B2} (X:K.In h) (G:h.Ns mainGlobals mg) (hfa:mg "law" = some (.ref fa))
  (aT:PySem.W.nsIn K mainGlobals "TURNED" = some (some (.ref 15))) (tab:ix K 15 [("0", .flat (.str "1")),("1", .flat (.str "0"))])
  (aS:PySem.W.nsIn K mainGlobals "SIGNS_AHEAD" = some (some (.ref 119))) (tabS:ix K 119 [("+", .flat (.str "0")),("-", .flat (.str "1"))])
  (cn0:PySem.W.nsIn K mainGlobals "LETTERS" = some (some (.str "abcdefghijklmnopqrstuvwxyz" 189)))
  (cn1:PySem.W.nsIn K mainGlobals "MOST_LETTERS" = some (some (.int 8 191)))
  (cn2:PySem.W.nsIn K mainGlobals "MOST_INPUTS" = some (some (.int 4 193)))
  (cn3:PySem.W.nsIn K mainGlobals "MOST_GATES" = some (some (.int 7 195)))
  (cn4:PySem.W.nsIn K mainGlobals "MOST_NODES" = some (some (.int 40 271)))
  (x0:FX K "is_name" 6 20 (.ref 19)) (x1:FX K "is_pair" 7 27 (.ref 26)) (x2:FX K "is_whole" 8 34 (.ref 33)) (x3:FX K "is_number_below" 9 41 (.ref 40)) (x4:FX K "is_row" 10 46 (.ref 45)) (x5:FX K "are_unlike_names" 11 51 (.ref 50)) (x6:FX K "turned_at" 12 58 (.ref 57)) (x7:FX K "found_from" 14 65 (.ref 64)) (x8:FX K "is_turn" 17 72 (.ref 71)) (x9:FX K "is_node" 18 77 (.ref 76)) (x10:FX K "has_wires" 19 82 (.ref 81)) (x11:FX K "has_sheet_form" 20 87 (.ref 86)) (x12:FX K "row_behind" 21 94 (.ref 93)) (x13:FX K "rows_found" 22 101 (.ref 100))(h13:PySem.W.codeHdIn K 100 96=true) (x14:FX K "has_one_row_each" 23 106 (.ref 105)) (x15:FX K "is_sheet" 24 113 (.ref 112)) (x16:FX K "signs_of" 25 118 (.ref 117)) (x17:FX K "waiting_turns" 28 124 (.ref 123)) (x18:FX K "first_marks" 29 129 (.ref 128)) (x19:FX K "may_come" 30 134 (.ref 133)) (x20:FX K "mark_behind" 31 141 (.ref 140)) (x21:FX K "marks_behind" 32 146 (.ref 145)) (x22:FX K "steps_at" 33 153 (.ref 152)) (x23:FX K "odd_word" 34 160 (.ref 159)) (x24:FX K "unfolded" 35 167 (.ref 166)) (x25:FX K "_law_pool" 37 174 (.ref 173)) (x26:FX K "_law_take" 38 181 (.ref 180)) (x27:FX K "_law_names" 39 186 (.ref 185)) (x28:FX K "_law_order" 40 193 (.ref 192)) (x29:FX K "_law_arcs" 41 198 (.ref 197)) (x30:FX K "_law_ring" 42 203 (.ref 202)) (x31:FX K "_law_behind" 43 210 (.ref 209)) (x32:FX K "_law_odd_right" 44 215 (.ref 214)) (x33:FX K "_law_sheet_right" 45 220 (.ref 219)) (x34:FX K "law" 46 227 (.ref 226))
  (z0:ZN K "len") (z1:ZN K "range") (z2:ZN K "max") (z3:ZN K "min") (z4:ZN K "int") (z5:ZN K "list") (z6:ZN K "str") (z7:ZN K "isinstance") (z8:ZN K "all") (z9:ZN K "set") (z10:ZN K "dict") (z11:ZN K "enumerate") (z12:ZN K "sorted") (z13:ZN K "tuple") (z14:ZN K "bool") (z15:ZN K "zip") (z16:ZN K "reversed")
  : ∃fd:FuncData,(∀(s:Shared) (v:Value),BindsTo s fd ⟨[v],[]⟩ [("script", v)])/\∀base:Heap,K.In base->base.Ns mainGlobals mg->L2.fM base mg->FnOk l.prog w K mg base CX0 8 fa fd ["script"] (qD K 96):=by
 have e:=hfa.symm.trans (Zc X G x34.a);cases e;have T:Txt K mg 15:=⟨QX X G z0,QX X G z1,QX X G z2,QX X G z3,QX X G z4,QX X G z5,QX X G z6,QX X G z7,QX X G z8,QX X G z9,QX X G z10,QX X G z11,QX X G z12,QX X G z13,QX X G z14,QX X G z15,QX X G z16,⟨_,Zc X G cn0⟩,⟨_,Zc X G cn1⟩,⟨_,Zc X G cn2⟩,⟨_,Zc X G cn3⟩,⟨_,Zc X G cn4⟩,⟨_,Zc X G aS,tabS⟩,Zc X G aT,tab⟩;obtain⟨a13,⟨_,_,_,_,_,_,_,_,l13⟩,c13,k13⟩:=x13;have m13:=Zc X G a13;have F13:=pR (st:=top 22) l13 c13 k13;have b13:=F13.binds (ps:=["sheet"]) λ_ _ _ _ _ _ us hl=>by obtain⟨_,rfl⟩:=vi hl;rfl
 obtain⟨a34,⟨_,_,kV,dc,pm,an,ct,_,l34⟩,c34,k34⟩:=x34;have m34:=Zc X G a34;have F34:=pR (st:=top 46) l34 c34 k34;have b34:=F34.binds (ps:=["script"]) λ_ _ _ _ _ _ us hl=>by obtain⟨_,rfl⟩:=vi hl;rfl
 refine⟨PySem.W.fnOf "law" "law" (cQ (top 46)) (b9 (top 46)) (au (top 46)) .none kV dc pm an (.ref 226) ct,λs v=>.of_eq rfl,λbase KB _ BM=>?_⟩;have CT0:=PySem.W.codeHd_of_K KB h13;have FC13:FunC K "rows_found" "rows_found" (top 22) 101 _ 100:=⟨_,_,_,_,_,_,_,_,rfl,l13,c13⟩;have g25:=x25.go l.prog w base X G λ_ F _ _=>wK F T;have g26:=x26.go l.prog w base X G λ_ F _ _=>wH F T;have g27:=x27.go l.prog w base X G λ_ F _ _=>sC F T g26;have g28:=x28.go l.prog w base X G λ_ F _ _=>uV F T g26;have g29:=x29.go l.prog w base X G λ_ F _ _=>wR F T g26;have g30:=x30.go l.prog w base X G λ_ F _ _=>wJ F T g26 g27 g28 g29;have g18:=x18.go l.prog w base X G λ_ F _ _=>uZ F T;have g17:=x17.go l.prog w base X G λ_ F _ _=>wF F T;have g19:=x19.go l.prog w base X G λ_ F _ _=>zh F T;have g20:=x20.go l.prog w base X G λ_ F _ _=>wO F T;have g21:=x21.go l.prog w base X G λ_ F _ _=>uW F T g20;have g6:=x6.go l.prog w base X G λ_ F _ _=>sx F T;have g12:=x12.go l.prog w base X G λ_ F _ _=>sE F T g6;have g22:=x22.go l.prog w base X G λ_ F _ _=>uT F T g17 g19 g21 g12;have g23:=x23.go l.prog w base X G λ_ F _ _=>zg F T;have g24:=x24.go l.prog w base X G λ_ F _ _=>zd F T g18 g22 g23;have g0:=x0.go l.prog w base X G λ_ F _ _=>wN F T;have g5:=x5.go l.prog w base X G λ_ F _ _=>sw F T g0;have g4:=x4.go l.prog w base X G λ_ F _ _=>ze F T;have g10:=x10.go l.prog w base X G λ_ F _ _=>su F T g5 g4;have g1:=x1.go l.prog w base X G λ_ F _ _=>wL F T;have g2:=x2.go l.prog w base X G λ_ F _ _=>uS F T;have g3:=x3.go l.prog w base X G λ_ F _ _=>u0 F T g2;have g8:=x8.go l.prog w base X G λ_ F _ _=>wG F T g1 g3;have g9:=x9.go l.prog w base X G λ_ F _ _=>wM F T g8;have g11:=x11.go l.prog w base X G λ_ F _ _=>wQ F T g10 g9;have g7:=x7.go (sp:=(kK l.prog w K mg base 1)) l.prog w base X G λ_ F _ _=>uY F T;have g12qS:=x12.go l.prog w base X G λ_ F _ _=>pj F T g6;have g13:Fn l.prog w K mg base "rows_found" ["sheet"] 3 (kI 96):=⟨_,_,wI FC13 T CT0 BM g7 g12qS,m13,k13,b13⟩;have g14:=x14.go l.prog w base X G λ_ F _ _=>sy F T g13 g12qS;have g15:=x15.go l.prog w base X G λ_ F _ _=>pi F T g11 g14;have g16:=x16.go l.prog w base X G λ_ F _ _=>uU F T g13;have g33:=x33.go l.prog w base X G λ_ F _ _=>sD F T g15 g16;have g31:=x31.go l.prog w base X G λ_ F _ _=>ph F T;have g32:=x32.go l.prog w base X G λ_ F _ _=>wP F T g31;exact uX F34 T g25 g30 g24 g33 g32
theorem A7 {l:PySem.W.OpenLaw} {q:Program} {loose:List Str} {XP:B2->Heap->Prop} {d:DefRec} {K:Params->PySem.W.Frag} {as:B3} {e:∀P,as=(K P).map (·.1)} (hn:l.most=some 63) (hdf:d.params.defaults=[]) (ok:∀w:World,gj (K w.params) [TL0]=true)
  (F:∀(w:World) (mg:B2) (fa:Addr) (h:Heap),(K w.params).In h->h.Ns mainGlobals mg->mg d.name=some (.ref fa) ->
   ∃fd:FuncData,(∀(s:Shared) (u:Value),BindsTo s fd ⟨[u],[]⟩ [("script", u)])/\∀base:Heap,(K w.params).In base->base.Ns mainGlobals mg->L2.fM base mg->FnOk l.prog w (K w.params) mg base CX0 8 fa fd ["script"] (qD (K w.params) TL0)) :
  PySem.W.WalkO q loose XP (PySem.W.kmHook K as e [TL0]).says l.row.toRowW d [] (λf vs=>PySem.call f vs) :=
 L2.tG (n:=63) (k:=8) (x := "script") (CX:=λ_=>CX0) (sp:=λw=>qD (K w.params) TL0) hn (by decide) hdf ⟨rfl,by decide,by decide⟩ ok F (λ_ _ a ns hl hT hS=>⟨a,ns,rfl,hS,hl,(.inl (hT _ (by simp))),λ_=>rfl⟩) λ_ _ _ _ _ z=>z
end K2
open PySem PySem.W PyProof.Rows
set_option maxRecDepth 100000 in
set_option maxHeartbeats 0 in
theorem PySem.Challenge.cw_anydelay_k53_whole_unfolded_sheets_holds : PySem.Challenge.rw_anydelay_k53_whole_unfolded_sheets.Holds := by
 w_on;refine holds_law K2.sd λsaid=>?_
 refine holds_open (q:=K2.vw) (loose:=[("TURNED" : Str),("SIGNS_AHEAD" : Str)]) (Xt:=λs=>xlAt K2.vw [] s&&recOk (RowW.records PySem.Challenge.rw_anydelay_k53_whole_unfolded_sheets.row.toRowW) s) (XP:=XL K2.vw []) (Yf:=Hook.obs K2.hk) (Ya:=Hook.val K2.hk) (YP:=Hook.says K2.hk) (N:=2506) K2.left (Hook.of K2.hk) (Hook.keeps K2.hk) (λs e=>xl_of s (Bool.and_eq_true_iff.mp e).1) XL.keeps (by rfl) (by rfl) (by rfl) (λs e=>recFacts_of (Bool.and_eq_true_iff.mp e).2) (by rfl) (by first|assumption|decide +kernel) (by decide +kernel) ⟨rfl,rfl,rfl,rfl,rfl,by decide +kernel⟩ ?hw ?hc
 (case hw=>w_witness2)
 refine K2.A7 (l:=PySem.Challenge.rw_anydelay_k53_whole_unfolded_sheets) (K:=K2.KF) (as:=[3,15,19,20,26,27,33,34,40,41,45,46,50,51,57,58,64,65,71,72,76,77,81,82,86,87,93,94,100,101,105,106,112,113,117,118,119,123,124,128,129,133,134,140,141,145,146,152,153,159,160,166,167,173,174,180,181,185,186,192,193,197,198,202,203,209,210,214,215,219,220,226,227]) (e:=λ_=>rfl) rfl rfl (λw=>by kernel_rfl) ?F
 case F =>
  intro w mg fa h KX G hmg;refine' K2.zN KX G hmg ?_ ?_ ?_ ?_ ?_ ?_ ?_ ?_ ?_ ?_ ?_ ?_ ?_ ?_ ?_ ?_ ?_ ?_ ?_ ?_ ?_ ?_ ?_ ?_ ?_ ?_ ?_ ?_ ?_ ?_ ?_ ?_ ?_ ?_ ?_ ?_ ?_ ?_ ?_ ?_ ?_ ?_ ?_ ?_ ?_ ?_ ?_ ?_ ?_ ?_ ?_ ?_ ?_ ?_ ?_ ?_ ?_ ?_ ?_ ?_ ?_ ?_
  all_goals first|exact⟨by kernel_rfl,⟨_,_,_,_,_,_,_,_,rfl⟩,by kernel_rfl,by kernel_rfl⟩|kernel_rfl|rfl|decide|decide +kernel
