import PyProof.Rows.All
import Wide.All
import OpenK.AllK
import Wide.FinOn
import Lean
import PyProof.EqAt
import PyProof.EqKinds
import PyProof.TupleCall
import PyProof.NeKinds
import KE.KTabLook
import KE.KIntText
import KE.KUnpack
import PyProof.StrBlock2
import KE.KLam
import KE.KDictLaws
import PyProof.DictWalks
import PyProof.Rows.StrInSeq3
import PyProof.FactsAll.list_1
import PyProof.Rows.SortShellK
import PyProof.Rows.SortKeyStr
import KE.KSortTup
import KE.KDictSum
import KE.KItemsList
import PyProof.Rows.SortStr
import PyProof.ZipIter
import PyProof.Draws
import PyProof.AttrMissHeap
import PyProof.DictUpdate
import PyProof.ListNew
import PyProof.FactsAll.dict_1
import PyProof.Rows.DictSet
import PyProof.ForAppend
import KE.KDictList
import PyProof.TupleIter
import PyProof.CompUse
import PyProof.EnumMake
import PyProof.Rows.CallKwBuiltin
import OpenK.KMore
import PyProof.StationsW
import PyProof.RulesAs
import PyProof.ExcClass2
import KE.KTryMore
import PyProof.InstStoreFacts
import PyProof.ExcBaseAll.ValueError
import PyProof.NsDelKeeps
import PySem.Challenge.RW_anydelay_k55_whole_ring_sheets_otherwise
namespace PySem
abbrev A0:=Value->Shared->Prop
abbrev A1:=List (Addr × Obj)
abbrev A2:=Str->Option Value
abbrev A3:=List Addr
end PySem
set_option linter.all false
set_option maxRecDepth 100000
set_option Elab.async false
abbrev Qa:=@PySem.wpAny_bind
abbrev Qb:=@PySem.Heap.get?_push_of_some
abbrev Qc:=@List.length_map
abbrev Qd:=@List.getElem?_eq_getElem
abbrev Qe:=@PySem.wpAny_pure
abbrev Qf:=@List.getElem?_eq_some_iff
abbrev Qg:=@Array.length_toList
abbrev Qh:=@List.length_append
abbrev Qi:=@List.size_toArray
abbrev Qj:=@Nat.le_refl
abbrev Qk:=@List.mem_cons
abbrev Ql:=@List.mem_of_getElem?
abbrev Qm:=@List.mem_map
abbrev Qn:=@PySem.Heap.get?_push_size
abbrev Qo:=@PySem.Heap.lt_size
abbrev Qp:=@Bool.false_ne_true
abbrev Qq:=@if_neg
abbrev Qr:=@List.getD_eq_getElem?_getD
abbrev Qs:=@if_pos
abbrev Qt:=@List.map_cons
abbrev Qu:=@List.mem_cons_of_mem
abbrev Qv:=@List.getElem?_map
abbrev Qw:=@List.mem_append
abbrev Qx:=@List.not_mem_nil
abbrev Qy:=@decide_eq_false
abbrev Qz:=@Bool.false_eq_true
abbrev QA:=@decide_eq_true
abbrev QB:=@List.mem_singleton
abbrev QC:=@List.mem_append_right
abbrev QE:=@PySem.F.plainAttrs_list
abbrev QF:=@Nat.ne_of_lt
abbrev QG:=@Array.getElem?_eq_getElem
abbrev QH:=@Option.some.inj
abbrev QI:=@List.map_append
abbrev QJ:=@PySem.boot_len
abbrev QK:=@Nat.le_trans
abbrev QL:=@List.length_singleton
abbrev QM:=@List.length_take
abbrev QN:=@List.pairwise_map
abbrev QO:=@List.idxOf_lt_length_of_mem
abbrev QP:=@Nat.le_add_right
abbrev QQ:=@PySem.Heap.size_push
abbrev QR:=@Nat.lt_of_lt_of_le
abbrev QS:=@List.nodup_cons
abbrev QT:=@PySem.wpAny_holding
abbrev QU:=@Nat.zero_le
abbrev QV:=@Array.getElem?_toList
abbrev QW:=@Array.getD_eq_getD_getElem?
abbrev QX:=@List.getElem_of_mem
abbrev QY:=@PySem.W.mg_none_of
abbrev QZ:=@PySem.wpAny_call_entry
abbrev Q0:=@PyProof.Rows.boot_isinstance
abbrev Q1:=@List.mem_append_left
abbrev Q2:=@List.mem_filter
abbrev Q3:=@PySem.F.slot_list_append
abbrev Q4:=@PySem.F.type_list_append
abbrev Q5:=@PySem.Heap.SameBut.update
abbrev Q6:=@PySem.wpAny_field
abbrev Q7:=@PySem.wpAny_callSpecial?_slot
abbrev Q8:=@List.getElem?_eq_none
abbrev Q9:=@PyProof.Rows.callWith_type1
abbrev Xa:=@Int.toNat_natCast
abbrev Xb:=@List.all_eq_true
abbrev Xc:=@List.take_of_length_le
abbrev Xd:=@PyProof.Rows.boot_sorted
abbrev Xe:=@PySem.wpAny_seqItems
abbrev Xf:=@List.getElem?_append_right
abbrev Xg:=@or_false
abbrev Xh:=@List.length_cons
abbrev Xi:=@List.getElem_mem
abbrev Xj:=@PySem.Heap.get?_update_self
abbrev Xk:=@PySem.wpAny_setField_rec
abbrev Xl:=@PySem.Heap.get?_update_other
abbrev Xm:=@List.map_map
abbrev Xo:=@PySem.Paired.length
abbrev Xp:=@PySem.Around.under_plainId
abbrev Xq:=@List.lookup_cons
abbrev Xr:=@PySem.wpAny_setState_of
abbrev Xs:=@if_false
abbrev Xu:=@List.mem_cons_self
abbrev Xv:=@PySem.F.slot_list_index
abbrev Xw:=@PySem.F.type_list_index
abbrev Xx:=@List.getElem?_append_left
abbrev Xy:=@List.getElem?_zip_eq_some
abbrev Xz:=@List.mem_range
abbrev XA:=@PyProof.Rows.boot_int
abbrev XB:=@PySem.codeAny_builtin
abbrev XD:=@Option.map_eq_some_iff
abbrev XF:=@PySem.Obj.data_mapFields
abbrev XG:=@PySem.F.called_set
abbrev XH:=@List.forIn_cons
abbrev XI:=@List.length_drop
abbrev XJ:=@Bool.and_eq_true
abbrev XM:=@PySem.wpAny_truthy_bool
abbrev XQ:=@of_decide_eq_true
abbrev XR:=@PySem.wpAny_newObj_type
abbrev XS:=@Bool.eq_iff_iff
abbrev XT:=@PySem.W.kia_one
abbrev XU:=@PySem.wpAny_nextOf_list_item
abbrev XV:=@PySem.wpAny_mono
abbrev XW:=@List.map_congr_left
abbrev XX:=@Nat.le_succ
abbrev XY:=@PySem.sizeLine_eq
abbrev XZ:=@List.forIn_nil
abbrev X0:=@Nat.ne_of_gt
abbrev X1:=@PySem.F.slot_zip_next
abbrev X2:=@PySem.F.slot_dict_keyiterator_next
abbrev X3:=@Nat.lt_of_le_of_lt
abbrev X4:=@PyProof.Rows.F.plain_set_update_loop
abbrev X5:=@Bool.not_true
abbrev X6:=@Nat.lt_irrefl
local macro_rules|`(tactic|z_go)=>`(tactic|first|exact .inl rfl|exact .inr rfl|assumption)
noncomputable section
namespace L2
open PySem
def cF (s:Stmt):Arguments:=match s with
 | .FunctionDef _ a _ _ _ _ _ _ _ _=>a
 | _=>{ posonlyargs:=[],args:=[],vararg:=none,kwonlyargs:=[],kw_defaults:=[],kwarg:=none,defaults:=[] }
def bV (s:Stmt):List Stmt:=match s with
 | .FunctionDef _ _ b _ _ _ _ _ _ _=>b
 | _=>[]
def av (s:Stmt):Scope:=match s with
 | .FunctionDef _ _ _ _ _ _ sc _ _ _=>sc
 | _=>{ kind:=.function,names:=[],isGenerator:=false,isCoroutine:=false }
end L2
namespace K2
open PySem L2 PySem.W
def top (i:Nat):Stmt:=PySem.Challenge.pw_anydelay_k55_whole_ring_sheets_otherwise.main.body.getD i (.Pass ⟨0,0,0,0⟩)
noncomputable def kC (n:Str) (t:Nat) (l a fl:Int) (r:Addr) (x y:Value) (z:Addr) (u:Nat):Obj:={ cls:=.type "code", data:=.fields #[.str n t,.str n (t+1),.str "/claim/cut.py" (t+2),.int l 0,.int a 0,.int 0 0,.int 0 0,.int 3 0,.ref r,.bool true,.int fl 0,.ref (r+1),.none,x,y,.ref z,.int u 0,.int l 0,.str "/claim/cut.py" (u+1)] }
noncomputable def kF (n:Str) (i:Nat) (m:Str) (t:Nat) (c:Addr):Obj:={ cls:=.type "function", data:=.func { name:=n,qualname:=n,params:=cF (top i),body:=.stmts (bV (top i)),scope:=av (top i),globals:=3,closure:=[],defaults:=.none,kwdefaults:=.none,pyModule:=.str m t,code:=.ref c } }
def kE (P:Params) (x:Str) (t:Nat) (v:Value):DictEntry:={ hash:=PyData.keyHash P x,key:=.str x t,val:=v }
noncomputable def KF (P:Params):Frag:=[(3,{ cls:=.type "dict", data:=.dict #[kE P "__name__" 165 (.str "law_anydelay_k55_whole_ring_sheets_otherwise" 378),kE P "__doc__" 166 .none,kE P "__package__" 167 .none,kE P "__loader__" 168 (.builtin "__main__.__loader__#opaque"),kE P "__spec__" 169 .none,kE P "__annotations__" 170 (.ref 6),kE P "__builtins__" 171 (.ref 4),kE P "__file__" 173 (.str "/claim/cut.py" 172),kE P "__cached__" 174 .none,kE P "LETTERS" 190 (.str "abcdefghijklmnopqrstuvwxyz" 189),kE P "MOST_LETTERS" 192 (.int 8 191),kE P "TURNED" 199 (.ref 15),kE P "is_name" 205 (.ref 20),kE P "is_pair" 212 (.ref 27),kE P "is_whole" 219 (.ref 34),kE P "is_number_below" 227 (.ref 41),kE P "is_row" 233 (.ref 46),kE P "are_unlike_names" 239 (.ref 51),kE P "turned_at" 247 (.ref 58),kE P "MOST_NODES" 251 (.int 40 250),kE P "has_wires" 257 (.ref 63),kE P "row_behind" 266 (.ref 70),kE P "MOST_WIRES" 270 (.int 5 269),kE P "SIGNS_AHEAD" 277 (.ref 71),kE P "is_ring_turn" 285 (.ref 78),kE P "is_arc" 293 (.ref 85),kE P "waiting_turns" 299 (.ref 90),kE P "are_arcs" 305 (.ref 95),kE P "is_ring_sheet" 313 (.ref 102),kE P "first_marks" 319 (.ref 107),kE P "may_come" 325 (.ref 112),kE P "mark_behind" 334 (.ref 119),kE P "marks_behind" 340 (.ref 124),kE P "steps_at" 351 (.ref 131),kE P "odd_word" 362 (.ref 138),kE P "unfolded" 377 (.ref 145),kE P "_law_pool" 388 (.ref 152),kE P "_law_take" 399 (.ref 159),kE P "_law_names" 405 (.ref 164),kE P "_law_order" 415 (.ref 171),kE P "_law_arcs" 421 (.ref 176),kE P "_law_ring" 427 (.ref 181),kE P "_law_renamed" 433 (.ref 186),kE P "_law_flipped" 452 (.ref 193),kE P "_law_led" 458 (.ref 198),kE P "law" 475 (.ref 205)] 46 }),
 (15,{ cls:=.type "dict", data:=.dict #[kE P "0" 193 (.str "1" 194),kE P "1" 195 (.str "0" 196)] 2 }),
 (19,kC "is_name" 200 5 1 181 16 .none .none 18 203),
 (20,kF "is_name" 4 "anydelay.nets" 187 19),
 (26,kC "is_pair" 206 9 1 181 21 (.ref 23) (.ref 24) 25 210),
 (27,kF "is_pair" 5 "anydelay.nets" 187 26),
 (33,kC "is_whole" 213 11 1 181 28 (.ref 30) (.ref 31) 32 217),
 (34,kF "is_whole" 6 "anydelay.nets" 187 33),
 (40,kC "is_number_below" 220 13 2 181 35 (.ref 37) (.ref 38) 39 225),
 (41,kF "is_number_below" 7 "anydelay.nets" 187 40),
 (45,kC "is_row" 228 15 2 181 42 .none .none 44 231),
 (46,kF "is_row" 8 "anydelay.nets" 187 45),
 (50,kC "are_unlike_names" 234 19 1 181 47 .none .none 49 237),
 (51,kF "are_unlike_names" 9 "anydelay.nets" 187 50),
 (57,kC "turned_at" 240 21 2 181 52 (.ref 54) (.ref 55) 56 245),
 (58,kF "turned_at" 10 "anydelay.nets" 187 57),
 (62,kC "has_wires" 252 25 1 181 59 .none .none 61 255),
 (63,kF "has_wires" 13 "anydelay.sheets" 248 62),
 (69,kC "row_behind" 258 32 3 181 64 (.ref 66) (.ref 67) 68 264),
 (70,kF "row_behind" 14 "anydelay.sheets" 248 69),
 (71,{ cls:=.type "dict", data:=.dict #[kE P "+" 271 (.str "0" 272),kE P "-" 273 (.str "1" 274)] 2 }),
 (77,kC "is_ring_turn" 278 37 2 181 72 (.ref 74) (.ref 75) 76 283),
 (78,kF "is_ring_turn" 18 "anydelay.turnsheets" 267 77),
 (84,kC "is_arc" 286 41 2 181 79 (.ref 81) (.ref 82) 83 291),
 (85,kF "is_arc" 19 "anydelay.turnsheets" 267 84),
 (89,kC "waiting_turns" 294 47 1 181 86 .none .none 88 297),
 (90,kF "waiting_turns" 20 "anydelay.turnsheets" 267 89),
 (94,kC "are_arcs" 300 49 2 181 91 .none .none 93 303),
 (95,kF "are_arcs" 21 "anydelay.turnsheets" 267 94),
 (101,kC "is_ring_sheet" 306 54 1 181 96 (.ref 98) (.ref 99) 100 311),
 (102,kF "is_ring_sheet" 22 "anydelay.turnsheets" 267 101),
 (106,kC "first_marks" 314 59 1 181 103 .none .none 105 317),
 (107,kF "first_marks" 23 "anydelay.turnsheets" 267 106),
 (111,kC "may_come" 320 61 3 181 108 .none .none 110 323),
 (112,kF "may_come" 24 "anydelay.turnsheets" 267 111),
 (118,kC "mark_behind" 326 63 3 181 113 (.ref 115) (.ref 116) 117 332),
 (119,kF "mark_behind" 25 "anydelay.turnsheets" 267 118),
 (123,kC "marks_behind" 335 67 3 181 120 .none .none 122 338),
 (124,kF "marks_behind" 26 "anydelay.turnsheets" 267 123),
 (130,kC "steps_at" 341 69 2 181 125 (.ref 127) (.ref 128) 129 349),
 (131,kF "steps_at" 27 "anydelay.turnsheets" 267 130),
 (137,kC "odd_word" 352 76 3 181 132 (.ref 134) (.ref 135) 136 360),
 (138,kF "odd_word" 28 "anydelay.turnsheets" 267 137),
 (144,kC "unfolded" 363 82 1 181 139 (.ref 141) (.ref 142) 143 375),
 (145,kF "unfolded" 29 "anydelay.turnsheets" 267 144),
 (151,kC "_law_pool" 380 104 2 181 146 (.ref 148) (.ref 149) 150 386),
 (152,kF "_law_pool" 31 "law_anydelay_k55_whole_ring_sheets_otherwise" 378 151),
 (158,kC "_law_take" 389 111 2 181 153 (.ref 155) (.ref 156) 157 397),
 (159,kF "_law_take" 32 "law_anydelay_k55_whole_ring_sheets_otherwise" 378 158),
 (163,kC "_law_names" 400 122 2 181 160 .none .none 162 403),
 (164,kF "_law_names" 33 "law_anydelay_k55_whole_ring_sheets_otherwise" 378 163),
 (170,kC "_law_order" 406 140 2 181 165 (.ref 167) (.ref 168) 169 413),
 (171,kF "_law_order" 34 "law_anydelay_k55_whole_ring_sheets_otherwise" 378 170),
 (175,kC "_law_arcs" 416 146 3 181 172 .none .none 174 419),
 (176,kF "_law_arcs" 35 "law_anydelay_k55_whole_ring_sheets_otherwise" 378 175),
 (180,kC "_law_ring" 422 160 1 181 177 .none .none 179 425),
 (181,kF "_law_ring" 36 "law_anydelay_k55_whole_ring_sheets_otherwise" 378 180),
 (185,kC "_law_renamed" 428 182 2 181 182 .none .none 184 431),
 (186,kF "_law_renamed" 37 "law_anydelay_k55_whole_ring_sheets_otherwise" 378 185),
 (192,kC "_law_flipped" 434 187 2 181 187 (.ref 189) (.ref 190) 191 450),
 (193,kF "_law_flipped" 38 "law_anydelay_k55_whole_ring_sheets_otherwise" 378 192),
 (197,kC "_law_led" 453 197 2 181 194 .none .none 196 456),
 (198,kF "_law_led" 39 "law_anydelay_k55_whole_ring_sheets_otherwise" 378 197),
 (204,kC "law" 459 205 1 181 199 (.ref 201) (.ref 202) 203 473),
 (205,kF "law" 40 "law_anydelay_k55_whole_ring_sheets_otherwise" 378 204)]
noncomputable def hk:Hook:=kmHook KF [3,15,19,20,26,27,33,34,40,41,45,46,50,51,57,58,62,63,69,70,71,77,78,84,85,89,90,94,95,101,102,106,107,111,112,118,119,123,124,130,131,137,138,144,145,151,152,158,159,163,164,170,171,175,176,180,181,185,186,192,193,197,198,204,205] (λ_=>rfl) []
noncomputable def vw:Program:={ PySem.Challenge.pw_anydelay_k55_whole_ring_sheets_otherwise with main:={ PySem.Challenge.pw_anydelay_k55_whole_ring_sheets_otherwise.main with body:=[1,2,3,4,5,6,7,8,9,10,12,13,14,16,17,18,19,20,21,22,23,24,25,26,27,28,29,31,32,33,34,35,36,37,38,39,40].map top } }
def LW (w:World):Prop:=(openEnds treeTable PySem.Challenge.rw_anydelay_k55_whole_ring_sheets_otherwise.prog w 2256).map (λs=>(openSeen vw [("TURNED" : Str),("SIGNS_AHEAD" : Str)] (importedModules PySem.Challenge.rw_anydelay_k55_whole_ring_sheets_otherwise.prog.main.body) (λs=>xlAt vw [] s&&recOk (RowW.records PySem.Challenge.rw_anydelay_k55_whole_ring_sheets_otherwise.row.toRowW) s) true s,Hook.obs hk s))=some (openGood vw [("TURNED" : Str),("SIGNS_AHEAD" : Str)],Hook.val hk w)
set_option maxHeartbeats 0 in
theorem sd:PySem.Challenge.rw_anydelay_k55_whole_ring_sheets_otherwise.wellSaid=true:=by kernel_rfl
set_option maxHeartbeats 0 in
theorem yh:∀w:World,LW (w.withFollow "special-get-raises" false):=λw=>by unfold LW;kernel_rfl
set_option maxHeartbeats 0 in
theorem yg:∀w:World,LW (w.withFollow "special-get-raises" true):=λw=>by unfold LW;kernel_rfl
theorem left:LeftO PySem.Challenge.rw_anydelay_k55_whole_ring_sheets_otherwise.prog vw [("TURNED" : Str),("SIGNS_AHEAD" : Str)] (λs=>xlAt vw [] s&&recOk (RowW.records PySem.Challenge.rw_anydelay_k55_whole_ring_sheets_otherwise.row.toRowW) s) (Hook.obs hk) (Hook.val hk) 2256:=λw=>byRow2 (P:=LW) "special-get-raises" yh yg w
end K2
section
variable {a b c d e f g h i j k l m n x r lo:Nat}
local macro_rules | `(tactic|kd_p) => `(tactic| (intros; first | solve_by_elim (maxDepth := 3) [Nat.le_of_lt, QR, X3, QK, Nat.lt_of_not_ge, Nat.lt_of_not_le, Nat.le_of_not_lt, Nat.ge_of_not_lt, QP, Nat.le_add_left, Nat.sub_le, Nat.lt_succ_self, XX, Nat.add_le_add_left, Nat.add_le_add_right, Nat.add_lt_add_left, Nat.add_lt_add_right, Nat.succ_le_of_lt, Nat.lt_of_succ_le, Nat.le_of_eq, Nat.le_antisymm, Nat.lt_of_le_of_ne, Qj, QU, Nat.sub_lt, Nat.succ_le_succ, Nat.lt_succ_of_le, Nat.le_of_lt_succ, Eq.symm, Eq.trans] | (subst_vars; solve_by_elim (maxDepth := 3) [Nat.le_of_lt, QR, X3, QK, Nat.lt_of_not_ge, Nat.lt_of_not_le, Nat.le_of_not_lt, Nat.ge_of_not_lt, QP, Nat.le_add_left, Nat.sub_le, Nat.lt_succ_self, XX, Nat.add_le_add_left, Nat.add_le_add_right, Nat.add_lt_add_left, Nat.add_lt_add_right, Nat.succ_le_of_lt, Nat.lt_of_succ_le, Nat.le_of_eq, Nat.le_antisymm, Nat.lt_of_le_of_ne, Qj, QU, Nat.sub_lt, Nat.succ_le_succ, Nat.lt_succ_of_le, Nat.le_of_lt_succ, Eq.symm, Eq.trans])))
theorem om0:a<=b->¬a<b->a=b:=by grind
theorem om1:a-b<=a-b:=by simp_all
theorem om2:¬b<a->a<=b:=by kd_p
theorem om4:c<=b->c=a->a<=b:=by kd_p
theorem om5:a+1≠a:=by simp_all
theorem om6:b<a->a-(b+1)<a-b:=by omega
theorem om7:c=d->c=a->d=b->a=b:=by kd_p
theorem om8:a+(c+1)<b->a<b:=by grind
theorem om9:b=c->b=d->c=e->a<d->a<b:=by intros;simp_all
theorem yJ:c=b->c=d->b=e->a<d->a<b:=by intros;simp_all
theorem ya:a+(b+1)<c->a+1+b<c:=by omega
theorem sE:b=c->a<c->a<b:=by kd_p
theorem x_:a<c->b=c->a<b:=by kd_p
theorem xZ:c=a->d=b->c=d->a=b:=by kd_p
theorem ql:a+64<b->a<b:=by grind
theorem uD:a+64<b->a+1+8<b:=by grind
theorem sD:c=b->a<c->a<b:=by kd_p
theorem xY:a<=d+c->d<=b+1->a<=b+(c+1):=by grind
theorem xX:a<=a+1:=by simp
end
set_option maxHeartbeats 4000000
namespace TK
open PySem
section
variable {prog:Program} {w:World} {K:Type} [DecidableEq K] (knd:KeyKind prog w K)
def It (h:Heap):K ⊕ List K->Value->Prop
 | .inl k,v=>knd.is k v=true
 | .inr ks,v=>∃a,v=.ref a/\IsTupleKey knd h ks a
inductive Its (h:Heap):List (K ⊕ List K)->List Value->Prop
 | nil:Its h [] []
 | cons {k:K ⊕ List K} {v:Value} {ks:List (K ⊕ List K)} {vs:List Value}:It knd h k v->Its h ks vs->Its h (k::ks) (v::vs)
def IsT (h:Heap) (ks:List (K ⊕ List K)) (a:Addr):Prop:=∃o items n,h.get? a=some o/\o.cls=.type "tuple" /\ o.data=.seq items n/\Its knd h ks items.toList
def hsh:K ⊕ List K->Int
 | .inl k=>knd.hash k
 | .inr ks=>tupleKeyHash knd ks
def drw:K ⊕ List K->Nat
 | .inl _=>1
 | .inr ks=>ks.length+1
def nH (ks:List (K ⊕ List K)):Nat:=(ks.map drw).sum
def xp (ks:List (K ⊕ List K)):Int:=reduceHash (Builtin.Tuple.tupleHashOf (ks.map (hsh knd)))
variable {knd}
variable {v u:Value} {h h':Heap}
theorem It.inj {x y:K ⊕ List K} (hx:It knd h x v) (hy:It knd h y v):x=y:=by
 cases x with
 | inl k =>
  cases y with
  | inl j=>rw[knd.inj _ _ _ hx hy]
  | inr js =>
  obtain⟨a,rfl,_⟩:=hy;exact absurd (knd.byValue _ _ hx) (by simp[carriedByValue])
 | inr ks =>
 obtain⟨a,rfl,hx⟩:=hx
 cases y with
 | inl j=>exact absurd (knd.byValue _ _ hy) (by simp[carriedByValue])
 | inr js =>
 obtain⟨b,e,hy⟩:=hy;cases e;rw[hx.inj hy]
variable {x y ks:List (K ⊕ List K)}
theorem Its.inj {vs:List Value} (hx:Its knd h x vs) (hy:Its knd h y vs):x=y:=by
 induction hx generalizing y with
 | nil=>cases hy;rfl
 | cons h1 _ ih =>
 cases hy with
 | cons h2 t2=>rw[h1.inj h2,ih t2]
variable {d a b:Addr}
theorem It.keeps {k:K ⊕ List K} {o:Obj} {es ep} (x:It knd h k v) (ho:h.get? d=some o) (hd:o.data=.dict es ep) (hs:Heap.SameBut d h h'):It knd h' k v:=by
 cases k with
 | inl k=>exact x
 | inr ks=>obtain⟨a,e,x⟩:=x;exact⟨a,e,x.keeps ho hd hs⟩
theorem Its.imp {vs:List Value} (f:∀k v,It knd h k v->It knd h' k v) (x:Its knd h ks vs):Its knd h' ks vs:=by
 induction x with
 | nil=>exact .nil
 | cons h1 _ ih=>exact .cons (f _ _ h1) ih
theorem IsT.typeIs {s:Shared} (x:IsT knd s.heap ks a):s.TypeIs (.ref a) "tuple" := let ⟨o,_,_,ho,hc,_⟩:=x;⟨o,ho,hc⟩
theorem IsT.inj (hx:IsT knd h x a) (hy:IsT knd h y a):x=y:=by
 obtain⟨o,items,n,ho,_,hd,hi⟩:=hx;obtain⟨o',items',n',ho',_,hd',hi'⟩:=hy;obtain rfl:o=o':=QH (ho.symm.trans ho');rw[hd]at hd';injection hd' with h1 _;subst h1;exact hi.inj hi'
theorem IsT.keeps {o:Obj} {es ep} (x:IsT knd h ks a) (ho:h.get? d=some o) (hd:o.data=.dict es ep) (hs:Heap.SameBut d h h'):IsT knd h' ks a:=by
 obtain⟨o',items,n,ho',hc,hd',hi⟩:=x
 have hne:a≠d:=by
  rintro rfl;obtain rfl:o'=o:=QH (ho'.symm.trans ho);rw[hd]at hd';exact nomatch hd'
 exact⟨o',items,n,(hs.2 a hne).trans ho',hc,hd',hi.imp λk v x=>x.keeps ho hd hs⟩
variable {A:Around} {E:A0} {s:Shared}
theorem It.toks {k:K ⊕ List K} {v:Value} {t:Nat} (x:It knd s.heap k v):It knd { s with toks:=t }.heap k v:=x
theorem u0 {k:K ⊕ List K} {Q:Int->Shared->Prop} (hu:A.units<cLine) (hk:It knd s.heap k v) (h:Q (hsh knd k) { s with toks:=s.toks+drw k }):wpAny (model prog w) A (pyHash v) Q E s:=by
 cases k with
 | inl k=>exact knd.pyHash hk h
 | inr ks=>obtain⟨a,rfl,hk⟩:=hk;exact wpAny_pyHash_tuple hu hk h
theorem wu {Q:Int->Shared->Prop} (hu:A.units+1<cLine) (hk:IsT knd s.heap ks a) (h:Q (xp knd ks) { s with toks:=s.toks+(nH ks+1) }) :
  wpAny (model prog w) A (pyHash (.ref a)) Q E s:=by
 have hT:=hk.typeIs;obtain⟨o,items,n,ho,_,hd,hi⟩:=hk;unfold pyHash
 first|unfold pyHashByItsType|skip
 first|refine Qa (wpAny_cRoomFor_or (.inr (Nat.lt_of_succ_lt hu)) ?_)|skip
 refine Qa (wpAny_specialOf hT F.slot_tuple_hash.lookup ?_);show wpAny _ _ (if (some (Value.builtin "tuple.__hash__")==some Value.none)=true then _ else _) Q E s;rw[Qq (by rw[beq_builtin_none];exact Qp)];refine Qa (wpAny_specialOf hT F.slot_tuple_hash.lookup ?_);show wpAny _ _ (callSpecialIfBoundUnlessNone? (.ref a) "__hash__" _ >>= _) Q E s;refine Qa (wpAny_callSpecialIfBoundUnlessNone?_slot hT F.slot_tuple_hash (QZ F.slot_tuple_hash hT F.entry_tuple_hash ?_ (F.args_tuple_hash_1 _)));show wpAny _ _ (Builtin.Tuple.tupleItemsOf (.ref a) >>= _) _ _ s;refine Qa (wpAny_tupleItemsOf ho hd ?_);refine Qa ?_;rw[<-Array.forIn_toList]
 refine wpAny_forIn_list _
  (λrest (b:Array Int) s'=>∃done left,ks=done++left/\Its knd s.heap left rest/\b.toList=done.map (hsh knd)/\s'={ s with toks:=s.toks+nH done })
  _ ?_ ?_ _ _ ⟨[],ks,rfl,hi,rfl,rfl⟩
 ·rintro x rest b s' ⟨done,left,rfl,hl,hb,rfl⟩
  cases hl with
  | @cons k _ ks' _ h1 hl' =>
  have e:nH (done++[k])=nH done+drw k:=by simp[nH]
  refine Qa (u0 (s:={ s with toks:=s.toks+nH done }) hu h1 ?_)
  first
   | exact Qe ⟨done++[k],ks',by simp,hl',by simp[hb],by simp[e,Nat.add_assoc]⟩
   | exact Qa (Qe (Qe ⟨done++[k],ks',by simp,hl',by simp[hb],by simp[e,Nat.add_assoc]⟩))
 rintro b s' ⟨done,left,rfl,hl,hb,rfl⟩;cases hl;rw[List.append_nil]at h;show wpAny _ _ (retInt (Builtin.Tuple.tupleHashOf b.toList)) _ _ _;rw[hb];refine wpAny_ret_mkInt ?_;show wpAny _ _ (if (decide (-(2:Int) ^ 63<=Builtin.Tuple.tupleHashOf (done.map (hsh knd)))&&decide (Builtin.Tuple.tupleHashOf (done.map (hsh knd))<2 ^ 63))=true then _ else _) Q E _;unfold xp reduceHash at h;by_cases hr:(decide (-(2:Int) ^ 63<=Builtin.Tuple.tupleHashOf (done.map (hsh knd)))&&decide (Builtin.Tuple.tupleHashOf (done.map (hsh knd))<2 ^ 63))=true
 ·rw[Qs hr];rw[Qs hr]at h;exact Qe (by simpa[Nat.add_assoc] using h)
 rw[Qq hr];rw[Qq hr]at h;exact Qa (wpAny_rule (Qe (by simpa[Nat.add_assoc] using h)))
def Apt (knd:KeyKind prog w K):Prop:=∀{A:Around} {E:A0} {s:Shared} {k:K} {u:Value} {a:Addr} {items:Array Value} {Q:Bool->Shared->Prop},A.units<cLine->knd.is k u=true->s.heap.IsTuple a items->Q false s ->
 wpAny (model prog w) A (eqBool u (.ref a)) Q E s/\wpAny (model prog w) A (eqBool (.ref a) u) Q E s
theorem rm {ks:List K} (x:IsTupleKey knd h ks a):∃items,h.IsTuple a items:=let ⟨o,items,n,h1,h2,h3,_⟩:=x;⟨items,o,h1,h2,n,h3⟩
variable {Q:Bool->Shared->Prop}
theorem it_eq {x y:K ⊕ List K} (ap:Apt knd) (hu:A.units<cLine) (hx:It knd s.heap x u) (hy:It knd s.heap y v) (h:Q (decide (x=y)) s):wpAny (model prog w) A (eqBool u v) Q E s:=by
 cases x with
 | inl k =>
  cases y with
  | inl j=>exact knd.eqBool hx hy (by simpa using h)
  | inr js=>obtain⟨b,rfl,hy⟩:=hy;obtain⟨_,t⟩:=rm hy;exact(ap hu hx t (by simpa using h)).1
 | inr ks =>
 obtain⟨a,rfl,hx⟩:=hx
 cases y with
 | inl j=>obtain⟨_,t⟩:=rm hx;exact(ap hu hy t (by simpa using h)).2
 | inr js=>obtain⟨b,rfl,hy⟩:=hy;exact wpAny_eqBool_tuple hu hx hy (by simpa using h)
theorem pV {P:Fin->Shared->Prop} (ap:Apt knd) (hu:A.units<cLine) (hx:IsT knd s.heap x a) (hy:IsT knd s.heap y b) (h:P (.done (.ret (.bool (decide (x=y))))) s) :
  wpAny (model prog w) A (Builtin.«tuple.__eq__» ⟨[.ref a,.ref b],[]⟩) P E s:=by
 have hTb:=hy.typeIs;obtain⟨oa,xs,na,hoa,_,hda,hia⟩:=hx;obtain⟨ob,ys,nb,hob,_,hdb,hib⟩:=hy;show wpAny _ _ (isInstance (.ref b) (.type "tuple") >>= _) _ _ s;refine Qa (wpAny_isInstance hTb isSubtype_tuple_tuple ?_);simp only[X5,Qz,Xs];refine Qa (wpAny_tupleItemsOf hoa hda ?_);refine Qa (wpAny_tupleItemsOf hob hdb ?_);refine Qa ?_
 refine wpAny_forIn_list _
  (λrest r s'=>r.1=none/\s'=s/\∃x' y' xs' ys',rest=List.zip xs' ys'/\Its knd s.heap x' xs'/\Its knd s.heap y' ys'/\decide (x'=y')=decide (x=y)/\(xs'.length==ys'.length)=(xs.size==ys.size))
  _ ?_ ?_ _ _ ⟨rfl,rfl,x,y,xs.toList,ys.toList,rfl,hia,hib,rfl,by simp⟩
 ·rintro⟨u,v⟩ rest r s' ⟨hr,rfl,x',y',xs',ys',hz,hx',hy',hdec,hlen⟩
  cases hx' with
  | nil=>simp at hz
  | @cons k1 u' x'' xs'' h1 hx'' =>
  cases hy' with
  | nil=>simp at hz
  | @cons k2 v' y'' ys'' h2 hy'' =>
  simp only[List.zip_cons_cons,List.cons.injEq,Prod.mk.injEq]at hz;obtain⟨⟨rfl,rfl⟩,rfl⟩:=hz;refine Qa (it_eq ap hu h1 h2 ?_);by_cases hk:k1=k2
  ·subst hk;rw[QA rfl];simp only[X5,Qz,Xs];refine Qe ⟨rfl,rfl,x'',y'',xs'',ys'',rfl,hx'',hy'',?_,by simpa using hlen⟩;rw[<-hdec];by_cases hxy:x''=y''
   ·simp[hxy]
   simp[hxy]
  rw[Qy hk];simp only[Bool.not_false,if_true];have hf:decide (x=y)=false:=by rw[<-hdec];simp[hk]
  rw[hf]at h;exact Qa (Qe (Qe (Qe h)))
 rintro⟨r1,r2⟩ s' ⟨hr,rfl,x',y',xs',ys',hz,hx',hy',hdec,hlen⟩;simp only at hr;subst hr;refine Qe ?_
 have hfin:(xs.size==ys.size)=decide (x=y):=by
  rw[<-hdec,<-hlen]
  cases hx' with
  | nil =>
   cases hy' with
   | nil=>simp
   | cons _ _=>simp
  | cons _ _ =>
  cases hy' with
  | nil=>simp
  | cons _ _=>simp at hz
 show P (.done (.ret (.bool (xs.size==ys.size)))) s';rw[hfin];exact h
theorem t_eq (ap:Apt knd) (hu:A.units+1<cLine) (hx:IsT knd s.heap x a) (hy:IsT knd s.heap y b) (h:Q (decide (x=y)) s) :
  wpAny (model prog w) A (eqBool (.ref a) (.ref b)) Q E s:=by
 unfold eqBool
 try with_reducible refine QT ?_
 show wpAny _ _ (if (Value.ref a==Value.ref b)=true then _ else _) Q E s;by_cases hab:(Value.ref a==Value.ref b)=true
 ·rw[Qs hab];have e:a=b:=by have:=eq_of_beq hab;injection this
  subst e;obtain rfl:=hx.inj hy;exact Qa (wpAny_rule (Qe (by simpa using h)))
 rw[Qq hab]
 exact Qa (wpAny_richCompare_same_room (op:=.Eq) hx.typeIs hy.typeIs F.slot_tuple_eq
  (QZ F.slot_tuple_eq hx.typeIs F.entry_tuple_eq (pV ap hu hx hy ⟨_,rfl,(λe=>nomatch e),XM h⟩) (F.args_tuple_eq_2 _ _)) (Nat.lt_of_succ_lt hu))
theorem pU {ks:List K} {m:Nat} (hk:IsTupleKey knd s.heap ks a) (h:Q true s):wpAny (model prog w) A (eqIsQuiet (m+1) (.ref a)) Q E s:=by
 have hT:=hk.typeIs;obtain⟨o,items,n,ho,_,hd,hi⟩:=hk;unfold eqIsQuiet;refine Qa (wpAny_specialOf hT F.slot_tuple_eq.lookup ?_);show wpAny _ _ (isInstance (.ref a) (.type "tuple") >>= _) _ _ s;refine Qa (wpAny_isInstance hT isSubtype_tuple_tuple ?_);simp only[X5,Qz,Xs];refine Qa (Xe ho hd ?_);refine Qa ?_;show wpAny _ _ (forIn items _ _) _ _ s;rw[<-Array.forIn_toList];refine wpAny_forIn_list _ (λrest r s'=>r.1=none/\s'=s/\∀v∈rest,carriedByValue v=true) _ ?_ ?_ _ _ ⟨rfl,rfl,hi.byValue⟩
 ·rintro v rest r s' ⟨hr,rfl,hall⟩;rw[eqIsQuiet_byValue _ (hall v Xu)];refine Qa (Qe ?_);simp only[X5,Qz,Xs];exact Qe ⟨rfl,rfl,λu hu'=>hall u (Qu _ hu')⟩
 rintro⟨r1,r2⟩ s' ⟨hr,rfl,_⟩;simp only at hr;subst hr;exact Qe h
theorem tE {k:K ⊕ List K} {m:Nat} (hk:It knd s.heap k v) (h:Q true s):wpAny (model prog w) A (eqIsQuiet (m+1) v) Q E s:=by
 cases k with
 | inl k=>rw[eqIsQuiet_byValue _ (knd.byValue _ _ hk)];exact Qe h
 | inr ks=>obtain⟨a,rfl,hk⟩:=hk;exact pU hk h
theorem t_quiet (hk:IsT knd s.heap ks a) (h:Q true s):wpAny (model prog w) A (eqIsQuiet 8 (.ref a)) Q E s:=by
 have hT:=hk.typeIs;obtain⟨o,items,n,ho,_,hd,hi⟩:=hk;unfold eqIsQuiet;refine Qa (wpAny_specialOf hT F.slot_tuple_eq.lookup ?_);show wpAny _ _ (isInstance (.ref a) (.type "tuple") >>= _) _ _ s;refine Qa (wpAny_isInstance hT isSubtype_tuple_tuple ?_);simp only[X5,Qz,Xs];refine Qa (Xe ho hd ?_);refine Qa ?_;show wpAny _ _ (forIn items _ _) _ _ s;rw[<-Array.forIn_toList];refine wpAny_forIn_list _ (λrest r s'=>r.1=none/\s'=s/\∃ks,Its knd s.heap ks rest) _ ?_ ?_ _ _ ⟨rfl,rfl,_,hi⟩
 ·rintro v rest r s' ⟨hr,rfl,ks',hall⟩
  cases hall with
  | cons h1 h2 =>
  refine Qa (tE h1 ?_);simp only[X5,Qz,Xs];exact Qe ⟨rfl,rfl,_,h2⟩
 rintro⟨r1,r2⟩ s' ⟨hr,rfl,_⟩;simp only at hr;subst hr;exact Qe h
noncomputable def kind (knd:KeyKind prog w K) (ap:Apt knd):HeapKind prog w (List (K ⊕ List K)) where
 is:=IsT knd
 hash:=xp knd
 draws:=λks=>nH ks+1
 room:=λA=>A.units+1<cLine
 inj:=λhx hy=>hx.inj hy
 keeps:=λx ho hd hs=>x.keeps ho hd hs
 pyHash:=λhu hk h=>wu hu hk h
 eqBool:=λhu hx hy h=>t_eq ap hu hx hy h
 quiet:=λhk h=>t_quiet hk h
end
end TK
-- CHANGE: your row's module here,as the last of these rows
namespace L2
open PySem PySem.Spec PyProof.Rows
abbrev Key:=Sum Int Str
def dv:Key->Value->Bool
 | .inl k,v=>Value.isInt k v
 | .inr x,v=>Value.isStrOf x v
def yK (w:World):Key->Int
 | .inl k=>hashInt k
 | .inr x=>hashStr w x
theorem aN:∀{k:Key} {v:Value},dv k v=true->(∃i t,k=Sum.inl i/\v=Value.int i t)\/(∃x t,k=Sum.inr x/\v=Value.str x t)
 | .inl i,v,h=>by
  obtain⟨t,e⟩:=Value.isInt_shape (k:=i) (v:=v) h;exact .inl ⟨i,t,rfl,e⟩
 | .inr x,v,h=>by
  obtain⟨t,e⟩:=Value.isStrOf_shape (x:=x) (v:=v) h;exact .inr ⟨x,t,rfl,e⟩
theorem qK (i:Int) (t:Tok):dv (.inl i) (.int i t)=true:=by simp[dv,Value.isInt]
theorem qJ (x:Str) (t:Tok):dv (.inr x) (.str x t)=true:=by simp[dv,Value.isStrOf]
theorem s_ (a b:Int):decide ((Sum.inl a:Key)=Sum.inl b)=(a==b):=by
 by_cases e:a=b
 ·subst e;simp
 have h:¬(Sum.inl a:Key)=Sum.inl b:=λq=>e (Sum.inl.inj q);rw[Qy h];exact(beq_eq_false_iff_ne.mpr e).symm
theorem sZ (a b:Str):decide ((Sum.inr a:Key)=Sum.inr b)=decide (a=b):=by
 by_cases e:a=b
 ·subst e;simp
 have h:¬(Sum.inr a:Key)=Sum.inr b:=λq=>e (Sum.inr.inj q);rw[Qy h,Qy e]
theorem xf (a:Int) (b:Str):decide ((Sum.inl a:Key)=Sum.inr b)=false:=Qy (λq=>nomatch q)
theorem xb (a:Str) (b:Int):decide ((Sum.inr a:Key)=Sum.inl b)=false:=Qy (λq=>nomatch q)
noncomputable def az (prog:Program) (w:World):PySem.KeyKind prog w Key where
 is:=dv
 hash:=yK w
 inj:=λv a b ha hb=>by
  rcases aN ha with⟨i,t,rfl,rfl⟩|⟨x,t,rfl,rfl⟩
  ·rcases aN hb with⟨j,u,rfl,e⟩|⟨y,u,rfl,e⟩
   ·injection e with e1 _;rw[e1]
   exact nomatch e
  rcases aN hb with⟨j,u,rfl,e⟩|⟨y,u,rfl,e⟩
  ·exact nomatch e
  injection e with e1 _;rw[e1]
 byValue:=λk v h=>by
  rcases aN h with⟨i,t,rfl,rfl⟩|⟨x,t,rfl,rfl⟩ <;> rfl
 pyHash:=λhv h=>by
  rcases aN hv with⟨i,t,rfl,rfl⟩|⟨x,t,rfl,rfl⟩
  ·exact wpAny_pyHash_int h
  exact wpAny_pyHash_str h
 eqBool:=λhu hv h=>by
  rcases aN hu with⟨i,t,rfl,rfl⟩|⟨x,t,rfl,rfl⟩
  ·rcases aN hv with⟨j,u,rfl,rfl⟩|⟨y,u,rfl,rfl⟩
   ·rw[s_]at h;exact wpAny_eqBool_int h
   rw[xf]at h;exact SeqAt.EqAt.int_str i t y u _ _ _ _ h
  rcases aN hv with⟨j,u,rfl,rfl⟩|⟨y,u,rfl,rfl⟩
  ·rw[xb]at h;exact SeqAt.EqAt.str_int x t j u _ _ _ _ h
  rw[sZ]at h;exact wpAny_eqBool_str h
 «strs»:=λk x t v h=>by
  rcases aN h with⟨i,u,rfl,e⟩|⟨y,u,rfl,e⟩
  ·exact nomatch e
  injection e with e1 _;subst e1;cases v <;> rfl
theorem lF (prog:Program) (w:World) (i:Int) (t:Tok):(az prog w).is (.inl i) (.int i t)=true:=qK i t
theorem fY (prog:Program) (w:World) (x:Str) (t:Tok):(az prog w).is (.inr x) (.str x t)=true:=qJ x t
theorem jJ (prog:Program) (w:World):TK.Apt (az prog w):=λhu hk t h=>by
 rcases aN hk with⟨i,u,rfl,rfl⟩|⟨x,u,rfl,rfl⟩
 ·exact⟨SeqAt.EqAt.int_tuple _ _ t hu _ _ _ _ h,SeqAt.EqAt.tuple_int _ _ t hu _ _ _ _ h⟩
 exact⟨SeqAt.EqAt.str_tuple _ _ t hu _ _ _ _ h,SeqAt.EqAt.tuple_str _ _ t hu _ _ _ _ h⟩
abbrev ax:=List (Key ⊕ List Key)
abbrev bg (P:Program) (w:World):HeapKind P w ax:=TK.kind (az P w) (jJ P w)
variable {A:Around}
theorem jy {P:Program} {w:World} (hu:A.units+8<cLine):(bg P w).room A.in1:=show A.units+1+1<cLine by omega
inductive V where
 | non|bl (b:Bool)|int (i:Int)|str (x:Str)|byt (b:Array UInt8)|flt (b:UInt64)|ref (a:Addr)|ty (n:String)
 deriving DecidableEq
noncomputable def aU:V->Value->Prop
 | .non,u=>u=Value.none
 | .bl b,u=>u=Value.bool b
 | .int i,u=>∃t,u=Value.int i t
 | .str x,u=>∃t,u=Value.str x t
 | .byt b,u=>∃t,u=Value.bytes b t
 | .flt b,u=>∃t,u=Value.float b t
 | .ref a,u=>u=Value.ref a
 | .ty n,u=>u=Value.type n
abbrev aO:List V->List Value->Prop:=Paired aU
theorem aO.length {xs:List V} {us:List Value} (r:aO xs us):xs.length=us.length:=Xo r
theorem aO.get:∀{xs:List V} {us:List Value} {i:Nat} {x:V},aO xs us->xs[i]?=some x->∃u,us[i]?=some u/\aU x u
 | _,_,_,_,.nil,e=>by simp at e
 | _,_,0,_,.cons r _,e=>by simp at e;subst e;exact⟨_,rfl,r⟩
 | _,_,i+1,x,.cons _ t,e=>by
  obtain⟨u,h1,h2⟩:=aO.get (i:=i) (x:=x) t (by simpa using e);exact⟨u,by simpa using h1,h2⟩
variable {u cd dV doc pm cdv ct oc:Value}
theorem aO.set {x:V} (r:aU x u):∀{xs:List V} {us:List Value} (i:Nat),aO xs us->aO (xs.set i x) (us.set i u)
 | _,_,_,.nil=>.nil
 | _,_,0,.cons _ t=>.cons r t
 | _,_,i+1,.cons q t=>.cons q (aO.set r i t)
theorem aO.append:∀{xs ys:List V} {us ws:List Value},aO xs us->aO ys ws->aO (xs++ys) (us++ws)
 | _,_,_,_,.nil,s=>s
 | _,_,_,_,.cons r t,s=>.cons r (aO.append t s)
theorem aO.take:∀{xs:List V} {us:List Value} (n:Nat),aO xs us->aO (xs.take n) (us.take n)
 | _,_,0,_=>.nil
 | _,_,_+1,.nil=>.nil
 | _,_,n+1,.cons r t=>.cons r (aO.take n t)
theorem aO.drop:∀{xs:List V} {us:List Value} (n:Nat),aO xs us->aO (xs.drop n) (us.drop n)
 | _,_,0,r=>r
 | _,_,_+1,.nil=>.nil
 | _,_,n+1,.cons _ t=>aO.drop n t
theorem aO.none_of:∀{xs:List V} {us:List Value} {i:Nat},aO xs us->xs[i]?=none->us[i]?=none:=λ{xs us i} r e=>by
 have h1:=r.length;have h2:xs.length<=i:=List.getElem?_eq_none_iff.mp e;exact List.getElem?_eq_none_iff.mpr (by omega)
def fU:Option V->Option Value->Prop
 | some v,some u=>aU v u
 | none,none=>True
 | _,_=>False
def KV {κ:Type}:List (κ × V)->List (κ × Value)->Prop:=Paired λ(p:κ × V) (q:κ × Value)=>p.1=q.1/\aU p.2 q.2
def kV:Key->V
 | .inl i=>.int i
 | .inr x=>.str x
inductive HO where
 /-- a list -/
 | lst (xs:List V)
 /-- a tuple (never changes) -/
 | tup (xs:List V)
 /-- a dict whose keys are ints and texts;one whose keys are tuples of ints and texts (the empty one is both) -/
 | dK (kvs:List (Key × V))|dT (kvs:List (ax × V))
 /-- a set of ints: its members,its size -/
 | set (S:Int->Bool) (n:Nat)
 /-- an instance of the class at C,its dict at dx,its attributes -/
 | ins (C dx:Addr) (fs:List (Str × V))
 /-- the dict of the instance at x -/
 | own (x:Addr)
 /-- the dict of an exception -/
 | xd (fs:List (Str × V))
 /-- a bound method,f of x -/
 | met (f x:Addr)
 /-- a range object lo,lo+1,.. below hi -/
 | rng (lo hi:Int)
 /-- a thing that is known to the object (the script;a dict while a loop vB it): read,never written while it is so -/
 | frz (o:Obj) (u:HO)
 /-- a code object's table -/
 | tbl (ps:Array Value)
 /-- any other thing,by what is true of its one object (a def of one's own: SetO a S n:=HO.ext λh=>..) -/
 | ext (φ:Heap->Prop)
abbrev Hp:=Addr->Option HO
def upd (H:Hp) (a:Addr) (o:HO):Hp:=λb=>if b=a then some o else H b
variable {a b it dx C f:Addr} {H H':Hp}
theorem ah {o:HO}:upd H a o a=some o:=by unfold upd;rw[Qs rfl]
theorem aq {o:HO} (h:b≠a):upd H a o b=H b:=by unfold upd;rw[Qq h]
theorem vU {o u:HO} (h:H a=some o) (h':H b=some u) (d:o≠u):a≠b:=by
 intro e;subst e;rw[h]at h';exact d (QH h')
theorem aA {o:HO} (h:H a=some o) (h':H b=none):a≠b:=by
 intro e;subst e;rw[h]at h';cases h'
def KIt (H:Hp):Key ⊕ List Key->V->Prop
 | .inl k,v=>v=kV k
 | .inr ks,v=>∃c,v=.ref c/\H c=some (.tup (ks.map kV))
def bH (H:Hp) (k:ax) (b:Addr):Prop:=∃vs,H b=some (.tup vs)/\Paired (KIt H) k vs
theorem KIt.keeps {k:Key ⊕ List Key} {v:V} (ht:∀b xs,H b=some (.tup xs)->H' b=some (.tup xs)) (h:KIt H k v):KIt H' k v:=by
 cases k with
 | inl k=>exact h
 | inr ks=>obtain⟨c,e,h⟩:=h;exact⟨c,e,ht _ _ h⟩
theorem Paired.mapT {α β:Type} {F G:α->β->Prop}:∀{l₁:List α} {l₂:List β},Paired F l₁ l₂->(∀a b,F a b->G a b)->Paired G l₁ l₂
 | _,_,.nil,_=>.nil
 | _,_,.cons r t,f=>.cons (f _ _ r) (Paired.mapT t f)
theorem bH.keeps {k:ax} (h:bH H k b) (ht:∀b xs,H b=some (.tup xs)->H' b=some (.tup xs)):bH H' k b:=by
 obtain⟨vs,h1,h2⟩:=h;exact⟨vs,ht _ _ h1,Paired.mapT h2 λ_ _ z=>z.keeps ht⟩
section
variable (P:Program) (w:World)
noncomputable def a_ (H:Hp) (h:Heap) (a:Addr):HO->Prop
 | .lst xs=>xs.length<=sizeLine/\∃(its:List Value) (n:Nat),aO xs its/\h.get? a=some { cls:=.type "list", data:=.seq its.toArray n }
 | .tup xs=>xs.length<=sizeLine/\∃its:List Value,aO xs its/\IsTup h a its.toArray
 | .dK kvs=>kvs.length<=sizeLine/\(a==sysModules)=false/\∃vs,KV kvs vs/\h.DictOf (az P w) a vs
 | .dT kvs=>kvs.length<=sizeLine/\(a==sysModules)=false/\∃xs:List (ax × Addr × Value),
   Paired (λ(p:ax × V) (q:ax × Addr × Value)=>p.1=q.1/\bH H p.1 q.2.1/\aU p.2 q.2.2) kvs xs /\
   ∃o es ep,h.get? a=some o/\o.ExactDict/\o.data=.dict es ep/\es.toList=xs.map (entryOfKey (bg P w))/\(xs.map (·.1)).Nodup
 | .set S n=>h.SetOf (intKind P w) a S n
 | .ins C dx fs=>H dx=some (.own a)/\fs.length<=1000/\dx≠a/\h.get? a=some (PySem.W.instObj C dx) /\
   ∃mA,h.Ns1 dx mA/\(∀f,fU (fs.lookup f) (mA f))/\PySem.Within mA (fs.map (·.1))
 | .own _=>∃o,h.get? a=some o
 | .xd fs=>∃mA,h.Ns1 a mA/\∀f,fU (fs.lookup f) (mA f)
 | .rng lo hi=>∃t u v,h.get? a=some { cls:=.type "range", data:=.fields #[.int lo t,.int hi u,.int 1 v] }
 | .frz o u=>h.get? a=some o/\a_ H h a u
 | .tbl ps=>h.get? a=some { cls:=.none,data:=.fields ps }
 | .met f x=>h.get? a=some (PySem.W.methodObj (.ref f) (.ref x))
 | .ext φ=>φ h/\(∃o,h.get? a=some o)/\∀h1 h2:Heap,φ h1->(∀o,h1.get? a=some o->h2.get? a=some o)->φ h2
def HOk (H:Hp) (h:Heap):Prop:=∀a o,H a=some o->a_ P w H h a o
end
section
variable {P:Program} {w:World} {H H':Hp} {h h':Heap} {a:Addr} {o:HO}
theorem a_.lt (x:a_ P w H h a o):a<h.objs.size:=by
 cases o with
 | lst xs=>obtain⟨_,_,_,_,e⟩:=x;exact Qo e
 | tup xs=>obtain⟨_,_,_,p⟩:=x;exact p.lt
 | dK kvs=>obtain⟨_,_,_,_,o,_,_,e,_⟩:=x;exact Qo e
 | dT kvs=>obtain⟨_,_,_,_,o,_,_,e,_⟩:=x;exact Qo e
 | set S n=>obtain⟨o,_,_,_,e,_⟩:=x;exact Qo e
 | ins C dx fs=>obtain⟨_,_,_,e,_⟩:=x;exact Qo e
 | own y=>obtain⟨_,e⟩:=x;exact Qo e
 | xd fs=>obtain⟨_,⟨_,_,_,e,_⟩,_⟩:=x;exact Qo e
 | rng lo hi=>obtain⟨_,_,_,e⟩:=x;exact Qo e
 | frz ob u=>obtain⟨e,_⟩:=x;exact Qo e
 | tbl ps=>exact Qo (show h.get? a=some _ from x)
 | met f y=>exact Qo (show h.get? a=some _ from x)
 | ext φ=>obtain⟨_,⟨_,e⟩,_⟩:=x;exact Qo e
theorem Paired.mapP {α β:Type} {F G:α->β->Prop}:∀{l₁:List α} {l₂:List β},Paired F l₁ l₂->(∀a b,F a b->G a b)->Paired G l₁ l₂
 | _,_,.nil,_=>.nil
 | _,_,.cons r t,f=>.cons (f _ _ r) (Paired.mapP t f)
theorem a_.stay (x:a_ P w H h a o) (k:∀b u,(b=a\/H b=some (.own a))->h.get? b=some u->h'.get? b=some u)
  (ho:∀b,H b=some (.own a)->H' b=some (.own a)) (ht:∀b xs,H b=some (.tup xs)->H' b=some (.tup xs)):a_ P w H' h' a o:=by
 induction o with
 | lst xs=>obtain⟨z,its,n,r,e⟩:=x;exact⟨z,its,n,r,k _ _ (.inl rfl) e⟩
 | tup xs=>obtain⟨z,its,r,ob,e,c⟩:=x;exact⟨z,its,r,ob,k _ _ (.inl rfl) e,c⟩
 | dK kvs=>obtain⟨z,y,vs,r,ob,es,ep,e,c⟩:=x;exact⟨z,y,vs,r,ob,es,ep,k _ _ (.inl rfl) e,c⟩
 | dT kvs =>
  obtain⟨z,y,xs,r,ob,es,ep,e,c⟩:=x;exact⟨z,y,xs,Paired.mapP r λp q z=>⟨z.1,z.2.1.keeps ht,z.2.2⟩,ob,es,ep,k _ _ (.inl rfl) e,c⟩
 | set S n=>obtain⟨ob,es,ep,t,e,c⟩:=x;exact⟨ob,es,ep,t,k _ _ (.inl rfl) e,c⟩
 | ins C dx fs =>
  obtain⟨d,z,ne,e,mA,⟨od,es,ep,e2,c⟩,r⟩:=x;exact⟨ho _ d,z,ne,k _ _ (.inl rfl) e,mA,⟨od,es,ep,k _ _ (.inr d) e2,c⟩,r⟩
 | own y=>obtain⟨ob,e⟩:=x;exact⟨ob,k _ _ (.inl rfl) e⟩
 | xd fs=>obtain⟨mA,⟨od,es,ep,e,c⟩,r⟩:=x;exact⟨mA,⟨od,es,ep,k _ _ (.inl rfl) e,c⟩,r⟩
 | rng lo hi=>obtain⟨t,u,v,e⟩:=x;exact⟨t,u,v,k _ _ (.inl rfl) e⟩
 | frz ob u ih=>obtain⟨e,q⟩:=x;exact⟨k _ _ (.inl rfl) e,ih q⟩
 | tbl ps =>
  have e:h.get? a=some { cls:=.none,data:=.fields ps }:=x;show h'.get? a=some { cls:=.none,data:=.fields ps };exact k a _ (.inl rfl) e
 | met f y =>
  have e:h.get? a=some (PySem.W.methodObj (.ref f) (.ref y)):=x;show h'.get? a=some (PySem.W.methodObj (.ref f) (.ref y));exact k a _ (.inl rfl) e
 | ext φ=>obtain⟨p,⟨o,e⟩,st⟩:=x;exact⟨st _ _ p λo q=>k _ _ (.inl rfl) q,⟨o,k _ _ (.inl rfl) e⟩,st⟩
theorem HOk.lt (x:HOk P w H h) (e:H a=some o):a<h.objs.size:=(x a o e).lt
theorem HOk.fresh (x:HOk P w H h) (e:h.objs.size<=a):H a=none:=by
 cases q:H a with
 | none=>rfl
 | some u=>exact absurd (QR (x.lt q) e) (X6 _)
theorem HOk.kept (x:HOk P w H h) (k:∀b u,h.get? b=some u->h'.get? b=some u):HOk P w H h':=λa o e =>
 (x a o e).stay (λb u _ q=>k b u q) (λ_ q=>q) λ_ _ q=>q
theorem HOk.laid (x:HOk P w H h) (k:∀b u,h.get? b=some u->h'.get? b=some u) (hp:h.objs.size<=a) (new:a_ P w (upd H a o) h' a o):HOk P w (upd H a o) h':=λb u e=>by
 have hn:=x.fresh hp;by_cases hb:b=a
 ·subst hb;rw[ah]at e;cases e;exact new
 rw[aq hb]at e;exact(x b u e).stay (λc v _ q=>k c v q) (λc q=>by rw[aq (aA q hn)];exact q) λc xs q=>by rw[aq (aA q hn)];exact q
end
def Rd (H:Hp) (a:Addr) (u:HO):Prop:=H a=some u\/∃o,H a=some (.frz o u)
variable {h:Heap}
theorem Rd.ok {P:Program} {w:World} {u:HO} (r:Rd H a u) (x:HOk P w H h):a_ P w H h a u:=by
 rcases r with r|⟨o,r⟩
 ·exact x a u r
 obtain⟨_,q⟩:=x a _ r;exact q
def Mut:Option HO->Prop
 | some (.lst _)=>True
 | some (.dK _)=>True
 | some (.dT _)=>True
 | some (.set _ _)=>True
 | some (.ins _ _ _)=>True
 | some (.ext _)=>True
 | _=>False
section
variable {P:Program} {w:World} {H:Hp} {h h':Heap} {x e:Addr} {o':HO}
theorem HOk.write (ok:HOk P w H h) (mu:Mut (H x)) (he:e=x\/H e=some (.own x)) (k:∀b u,b≠e->h.get? b=some u->h'.get? b=some u) (heo:∃u,h'.get? e=some u)
  (new:a_ P w (upd H x o') h' x o'):HOk P w (upd H x o') h':=λb u q=>by
 have nown:∀c y,H c=some (.own y)->c≠x:=λc y r z=>by subst z;rw[r]at mu;exact mu
 have ntup:∀c xs,H c=some (.tup xs)->c≠x:=λc xs r z=>by subst z;rw[r]at mu;exact mu
 by_cases hb:b=x
 ·subst hb;rw[ah]at q;cases q;exact new
 rw[aq hb]at q;by_cases hbe:b=e
 ·have q':H b=some (.own x):=by
   rcases he with z|z
   ·exact absurd (hbe.trans z) hb
   rw[hbe];exact z
  rw[q]at q';cases q';obtain⟨v,hv⟩:=heo;exact⟨v,by rw[hbe];exact hv⟩
 refine(ok b u q).stay (λc v hc r=>k c v ?_ r) (λc r=>by rw[aq (nown c b r)];exact r) λc xs r=>by rw[aq (ntup c xs r)];exact r
 rcases hc with rfl|hc
 ·exact hbe
 rintro rfl;rcases he with z|z
 ·exact nown c b hc z
 rw[hc]at z;cases z;exact hb rfl
end
structure Un (fs ex:A3) (H H':Hp) (h h':Heap):Prop where
 keep:∀b o,h.get? b=some o->H b=none->b∉fs->b∉ex->h'.get? b=some o
 slot:∀b o,h.get? b=some o->H b=none->b∈fs->b∉ex->∃sl,h'.get? b=some { o with slots:=sl }
 free:∀b o,h.get? b=some o->H b=none->b∉ex->H' b=none
 there:∀b o,h.get? b=some o->b∉ex->∃o',h'.get? b=some o'
 tups:∀b xs,H b=some (.tup xs)->H' b=some (.tup xs)
 frzs:∀b o u,H b=some (.frz o u)->H' b=some (.frz o u)
 tbls:∀b ps,H b=some (.tbl ps)->∃more,H' b=some (.tbl (ps++more))
section
variable {fs fs' ex ex':A3} {H H1 H2:Hp} {h h1 h2 h':Heap} {a x e:Addr} {o:HO}
theorem Un.any (u:Un fs ex H H1 h h1) {b:Addr} {ob:Obj} (q:h.get? b=some ob) (n:H b=none) (hx:b∉ex):∃sl,h1.get? b=some { ob with slots:=sl }:=by
 by_cases hb:b∈fs
 ·exact u.slot b ob q n hb hx
 exact⟨ob.slots,u.keep b ob q n hb hx⟩
theorem Un.kept (k:∀b u,h.get? b=some u->h'.get? b=some u):Un fs ex H H h h' :=
 ⟨λb ob q _ _ _=>k b ob q,λb ob q _ _ _=>⟨ob.slots,k b ob q⟩,λ_ _ _ n _=>n,λb ob q _=>⟨ob,k b ob q⟩,λ_ _ q=>q,λ_ _ _ q=>q,λ_ ps q=>⟨#[],by rw[q];simp⟩⟩
theorem Un.refl:Un fs ex H H h h:=Un.kept λ_ _ q=>q
theorem Un.laid (k:∀b u,h.get? b=some u->h'.get? b=some u) (hp:h.objs.size<=a) (hn:H a=none):Un fs ex H (upd H a o) h h' where
 keep:=λb u q _ _ _=>k b u q
 slot:=λb u q _ _ _=>⟨u.slots,k b u q⟩
 free:=λb u q n _=>by rw[aq (QF (QR (Qo q) hp))];exact n
 there:=λb u q _=>⟨u,k b u q⟩
 tups:=λb xs q=>by rw[aq (aA q hn)];exact q
 frzs:=λb u xs q=>by rw[aq (aA q hn)];exact q
 tbls:=λb ps q=>⟨#[],by rw[aq (aA q hn),q];simp⟩
theorem Un.write (mu:Mut (H x)) (he:e=x\/H e=some (.own x)) (k:∀b u,b≠e->h.get? b=some u->h'.get? b=some u) (heo:∃u,h'.get? e=some u):Un fs ex H (upd H x o) h h':=by
 have hx:∀b,H b=none->b≠x:=λb n z=>by subst z;rw[n]at mu;exact mu
 have hb:∀b,H b=none->b≠e:=λb n z=>by
  subst z;rcases he with r|r
  ·exact hx b n r
  rw[n]at r;cases r
 have hm:∀b u,H b=some u->¬Mut (some u)->b≠x:=λb u q nm z=>by subst z;rw[q]at mu;exact nm mu
 refine⟨λb u q n _ _=>k b u (hb b n) q,λb u q n _ _=>⟨u.slots,k b u (hb b n) q⟩,λb u q n _=>by rw[aq (hx b n)];exact n,λb u q _=>?_,
  λb xs q=>by rw[aq (hm b _ q λz=>z)];exact q,λb u xs q=>by rw[aq (hm b _ q λz=>z)];exact q,λb ps q=>⟨#[],by rw[aq (hm b _ q λz=>z),q];simp⟩⟩
 by_cases hbe:b=e
 ·subst hbe;exact heo
 exact⟨u,k b u hbe q⟩
end
def trk (h:Heap) (H:Hp):A3:=(List.range h.objs.size).filter λa=>(H a).isSome
def iF (h:Heap) (H:Hp):Heap:=PySem.W.hideAll h (trk h H)
theorem qP (h:Heap) (H:Hp):(iF h H).objs.size=h.objs.size:=PySem.W.hideAll_size _ _
theorem tK {o:Obj} (e:h.get? b=some o) (n:H b=none):(iF h H).get? b=some o :=
 PySem.W.hideAll_get _ e λhm=>by
  have q:(H b).isSome=true:=(Q2.mp hm).2;rw[n]at q;simp at q
theorem uM {o:Obj} (e:(iF h H).get? b=some o):h.get? b=some o/\H b=none:=by
 have e':h.get? b=some o:=PySem.W.of_hideAll (trk h H) e;refine⟨e',?_⟩
 cases q:H b with
 | none=>rfl
 | some x =>
 have hm:b∈trk h H:=Q2.mpr ⟨Xz.mpr (Qo e'),by simp[q]⟩;have z:(iF h H).get? b=none:=PySem.W.hideAll_none (trk h H) hm;rw[z]at e;cases e
structure Mod (K:PySem.W.Frag) (mg:A2) (base:Heap):Prop where
 kin:K.In base
 glob:base.Ns mainGlobals mg
 blt:∃mb,base.Ns builtinsNs mb/\∀x:Str,x ≠ "__name__" -> mb x=bootBuiltins x
 nolimit:base.NoLimit
/-- the context: a def's body (or a comprehension's block) running. base: fixed through the whole law;s₀,H₀: the pE;outer: the frames whose slots others may change (a def's callers);stack: all frames that run;
  ex: iterators that were made ahead of the pE and are walked here (a comprehension's);fn: the names whose cells were made at the pE (a def: all;a comprehension's block: its own);calm: not within an except suite;pn: pins that every state bears;xe: what is wanted of an exception that leaves the code -/
structure Cx where
 prog:Program
 w:World
 K:PySem.W.Frag
 mg:A2
 base:Heap
 A:Around
 N:List Str
 s₀:Shared
 H₀:Hp
 env:Env
 outer:List Env
 stack:List Env
 ex:A3
 fn:Str->Bool
 calm:Bool
 pn:A1
 xe:A0
def frs (l:List Env):A3:=l.filterMap (·.frame)
abbrev Cx.fs (X:Cx):A3:=frs X.outer
def Vis (sc:Scope) (x:Str):Prop:=sc.names.lookup x=some .local\/sc.names.lookup x=some .cell\/sc.names.lookup x=some .free
def Loc (sc:Scope) (x:Str):Prop:=sc.names.lookup x=some .local\/sc.names.lookup x=some .cell
def yR (env:Env) (h:Heap) (m:A2) (x:Str) (u:Value):Prop :=
 (env.kindOf x=some .local/\m x=some u)\/((env.kindOf x=some .cell\/env.kindOf x=some .free)/\∃c,env.cells.lookup x=some c/\h.IsCell c (some u))
structure Cx.Ok (X:Cx):Prop where
 mod:Mod X.K X.mg X.base
 kind:X.env.scope.kind=.function
 glob:X.env.globals=mainGlobals
 blt:X.env.builtins=builtinsNs
 above:X.s₀.heap.objs.size<=X.env.locals
 inj:∀x y c,X.env.cells.lookup x=some c->X.env.cells.lookup y=some c->x=y
 has:∀x,(X.env.kindOf x=some .cell\/X.env.kindOf x=some .free)->∃c,X.env.cells.lookup x=some c
 cab:∀x c,X.fn x=true->X.env.cells.lookup x=some c->X.s₀.heap.objs.size<=c
 hd:X.calm=true->X.A.handled=none
 frames:X.A.frames=some X.stack
 stk:X.stack=X.outer\/(X.stack=X.env::X.outer/\X.env.frame=some X.env.locals)
 exf:∀b∈X.ex,b≠X.env.locals/\∀x c,X.env.cells.lookup x=some c->c≠b
 bs:∀b o,X.base.get? b=some o->X.s₀.heap.get? b=some o/\X.H₀ b=none
 bsz:X.base.objs.size<=X.s₀.heap.objs.size
 noex:∀b o,X.base.get? b=some o->b∉X.ex
 exfs:∀b∈X.ex,b∉X.fs
 funs:X.s₀.heap.FunFrames X.base X.outer
 frf:∀b∈X.fs,X.H₀ b=none
structure Inv (X:Cx) (pins:A1) (U:List (Option V)) (H:Hp) (s:Shared):Prop where
 ok:X.Ok
 os:s.os=X.s₀.os
 bare:AllBare s.gens
 base:Un X.fs X.ex X.H₀ H X.s₀.heap s.heap
 loc:∃m,s.heap.Ns X.env.locals m/\∀(i:Nat) (x:Str) (v:V),X.N[i]?=some x->U[i]?=some (some v)->Vis X.env.scope x->∃u,aU v u/\yR X.env s.heap m x u
 cell:∀x c,X.env.cells.lookup x=some c->∃v,s.heap.IsCell c v
 free:H X.env.locals=none
 freeC:∀x c,X.env.cells.lookup x=some c->H c=none
 pin:∀p∈X.pn++pins,s.heap.get? p.1=some p.2/\H p.1=none/\p.1≠X.env.locals/\p.1∉X.fs/\∀v,p.2.data≠.cell v
 hok:HOk X.prog X.w H s.heap
 len:U.length=X.N.length
section
variable {X:Cx} {pins:A1} {U:List (Option V)} {H H':Hp} {s:Shared} {h':Heap}
theorem Cx.Ok.nofr (ok:X.Ok) {b:Addr} {o:Obj} (e:X.base.get? b=some o):b∉X.fs:=λhb=>by
 have:=(ok.funs.mem hb).1;rw[e]at this;cases this
theorem Inv.bs (I:Inv X pins U H s):∀b o,X.base.get? b=some o->s.heap.get? b=some o/\H b=none:=λb o e =>
 ⟨I.base.keep b o (I.ok.bs b o e).1 (I.ok.bs b o e).2 (I.ok.nofr e) (I.ok.noex b o e),I.base.free b o (I.ok.bs b o e).1 (I.ok.bs b o e).2 (I.ok.noex b o e)⟩
theorem Inv.bk (I:Inv X pins U H s):∀b o,X.base.get? b=some o->s.heap.get? b=some o:=λb o e=>(I.bs b o e).1
theorem Inv.mod (I:Inv X pins U H s):Mod X.K X.mg X.base:=I.ok.mod
theorem Inv.kIn (I:Inv X pins U H s):X.K.In s.heap:=I.ok.mod.kin.keeps I.bk
theorem Inv.lt (I:Inv X pins U H s):X.env.locals<s.heap.objs.size:=let ⟨_,hn,_⟩:=I.loc;hn.lt
theorem Inv.sz (I:Inv X pins U H s):X.s₀.heap.objs.size<=s.heap.objs.size:=QK I.ok.above (Nat.le_of_lt I.lt)
theorem Inv.nofs (I:Inv X pins U H s) {a:Addr} (h:s.heap.objs.size<=a):a∉X.fs:=λhb=>by
 obtain⟨_,o,ho,_⟩:=I.ok.funs.mem hb;exact absurd (QR (Qo ho) (QK I.sz h)) (X6 _)
theorem Inv.cne (I:Inv X pins U H s):∀x c,X.env.cells.lookup x=some c->c≠X.env.locals:=λx c e z=>by
 obtain⟨v,o,ho,hd⟩:=I.cell x c e;obtain⟨m,⟨o',es,ep,ho',hd',_⟩,_⟩:=I.loc;rw[z,ho']at ho;cases ho;rw[hd']at hd;cases hd
theorem Inv.funs (I:Inv X pins U H s):s.heap.FunFrames X.base X.outer:=by
 have all:∀(l:List Env),(∀b∈frs l,b∈X.fs)->X.s₀.heap.FunFrames X.base l->s.heap.FunFrames X.base l:=by
  intro l
  induction l with
  | nil=>intro _ _;trivial
  | cons env r ih =>
  intro hs hl;obtain⟨hk,⟨L,o,hf,hn,ho,hd⟩,hr⟩:=hl;have hL:L∈X.fs:=hs L (by unfold frs;rw[List.filterMap_cons,hf];exact Xu);obtain⟨sl,e⟩:=I.base.slot L o ho (I.ok.frf L hL) hL λz=>I.ok.exfs L z hL;exact⟨hk,⟨L,_,hf,hn,e,hd⟩,ih (λb hb=>hs b (by unfold frs;rw[List.filterMap_cons,hf];exact Qu _ hb)) hr⟩
 exact all X.outer (λ_ hb=>hb) I.ok.funs
theorem Inv.stack (I:Inv X pins U H s):s.heap.FunFrames X.base X.stack:=by
 rcases I.ok.stk with e|⟨e,hf⟩
 ·rw[e];exact I.funs
 rw[e];obtain⟨m,hn,_⟩:=I.loc;refine .cons (by rw[I.ok.kind];decide) hf hn ?_ I.funs;exact Heap.get?_none_of_le (QK I.ok.bsz I.ok.above)
theorem Inv.stkSub (I:Inv X pins U H s):∀b∈frs X.stack,b∈X.env.locals::X.fs:=λb hb=>by
 rcases I.ok.stk with e|⟨e,hf⟩
 ·rw[e]at hb;exact Qu _ hb
 rw[e]at hb;unfold frs at hb;rw[List.filterMap_cons,hf]at hb;exact hb
theorem Inv.stkFree (I:Inv X pins U H s):∀b∈frs X.stack,H b=none:=λb hb=>by
 rcases Qk.mp (I.stkSub b hb) with e|hb
 ·rw[e];exact I.free
 obtain⟨_,o,ho,_⟩:=I.ok.funs.mem hb;exact I.base.free b o ho (I.ok.frf b hb) λz=>I.ok.exfs b z hb
theorem Inv.step {g':Array GenState} {t':Nat} {d':Drawn} {ch:A3} (I:Inv X pins U H s)
  (hch:∀b∈ch,(b∈X.ex\/X.s₀.heap.objs.size<=b)/\b≠X.env.locals/\(∀x c,X.env.cells.lookup x=some c->c≠b)/\∀p∈X.pn++pins,p.1≠b)
  (keep:∀b o,b≠X.env.locals->b∉X.fs->b∉ch->s.heap.get? b=some o->H b=none->h'.get? b=some o)
  (slot:∀b o,b≠X.env.locals->b∈X.fs->b∉ch->s.heap.get? b=some o->H b=none->∃sl,h'.get? b=some { o with slots:=sl }) (free:∀b o,b∉ch->s.heap.get? b=some o->H b=none->H' b=none)
  (there:∀b o,b∉ch->s.heap.get? b=some o->∃o',h'.get? b=some o')
  (tups:∀b xs,H b=some (.tup xs)->H' b=some (.tup xs)) (frzs:∀b o u,H b=some (.frz o u)->H' b=some (.frz o u)) (tbls:∀b ps,H b=some (.tbl ps)->∃more,H' b=some (.tbl (ps++more)))
  (ns:∀m,s.heap.Ns X.env.locals m->h'.Ns X.env.locals m) (hok:HOk X.prog X.w H' h') (hg:AllBare g') :
  Inv X pins U H' { s with heap:=h',gens:=g',drawn:=d',toks:=t' }:=by
 have neL:∀b o,X.s₀.heap.get? b=some o->b≠X.env.locals:=λb o e=>QF (QR (Qo e) I.ok.above)
 have neC:∀b o,X.s₀.heap.get? b=some o->b∉X.ex->b∉ch:=λb o e hx hb=>by
  rcases(hch b hb).1 with z|z
  ·exact hx z
  exact absurd (QR (Qo e) z) (X6 _)
 have cellK:∀x c,X.env.cells.lookup x=some c->∀v,s.heap.IsCell c v->h'.IsCell c v:=λx c e v ⟨o,ho,hd⟩=>by
  have nch:c∉ch:=λz=>(hch c z).2.2.1 x c e rfl;by_cases hc:c∈X.fs
  ·obtain⟨sl,q⟩:=slot c o (I.cne x c e) hc nch ho (I.freeC x c e);exact⟨_,q,hd⟩
  exact⟨o,keep c o (I.cne x c e) hc nch ho (I.freeC x c e),hd⟩
 refine⟨I.ok,I.os,hg,⟨λb o e n hb hx=>?_,λb o e n hb hx=>?_,λb o e n hx=>?_,λb o e hx=>?_,λb xs e=>tups b xs (I.base.tups b xs e),λb o xs e=>frzs b o xs (I.base.frzs b o xs e),λb ps e=>?_⟩,?_,λx c e=>?_,?_,λx c e=>?_,λp hp=>?_,hok,I.len⟩
 ·exact keep b o (neL b o e) hb (neC b o e hx) (I.base.keep b o e n hb hx) (I.base.free b o e n hx)
 ·obtain⟨sl,e1⟩:=I.base.slot b o e n hb hx;obtain⟨sl',e2⟩:=slot b _ (neL b o e) hb (neC b o e hx) e1 (I.base.free b o e n hx);exact⟨sl',e2⟩
 ·obtain⟨o',e1⟩:=I.base.there b o e hx;exact free b o' (neC b o e hx) e1 (I.base.free b o e n hx)
 ·obtain⟨o',e1⟩:=I.base.there b o e hx;exact there b o' (neC b o e hx) e1
 ·obtain⟨m1,e1⟩:=I.base.tbls b ps e;obtain⟨m2,e2⟩:=tbls b _ e1;exact⟨m1++m2,by rw[e2,Array.append_assoc]⟩
 ·obtain⟨m,hn,hl⟩:=I.loc;refine⟨m,ns m hn,λi x v e1 e2 e3=>?_⟩;obtain⟨u,r,l⟩:=hl i x v e1 e2 e3;refine⟨u,r,?_⟩;rcases l with l|⟨k,c,e,z⟩
  ·exact .inl l
  exact .inr ⟨k,c,e,cellK x c e _ z⟩
 ·obtain⟨v,z⟩:=I.cell x c e;exact⟨v,cellK x c e v z⟩
 ·obtain⟨m,⟨o,_,_,ho,_⟩,_⟩:=I.loc;exact free _ o (λz=>(hch _ z).2.1 rfl) ho I.free
 ·obtain⟨v,o,ho,hd⟩:=I.cell x c e;exact free c o (λz=>(hch c z).2.2.1 x c e rfl) ho (I.freeC x c e)
 obtain⟨e,n,ne,nf,d⟩:=I.pin p hp;have nch:p.1∉ch:=λz=>(hch p.1 z).2.2.2 p hp rfl;exact⟨keep p.1 p.2 ne nf nch e n,free p.1 p.2 nch e n,ne,nf,d⟩
theorem Inv.un {t':Nat} (I:Inv X pins U H s) (u:Un X.fs [] H H' s.heap h') (hok:HOk X.prog X.w H' h'):Inv X pins U H' { s with heap:=h',toks:=t' }:=by
 obtain⟨m,⟨o,es,ep,ho,r⟩,_⟩:=id I.loc;obtain⟨sl,hL⟩:=u.any ho I.free (by simp)
 exact I.step (g':=s.gens) (d':=s.drawn) (ch:=[]) (λ_ z=>nomatch z) (λb o _ hb _ e n=>u.keep b o e n hb (by simp)) (λb o _ hb _ e n=>u.slot b o e n hb (by simp)) (λb o _ e n=>u.free b o e n (by simp)) (λb o _ e=>u.there b o e (by simp)) u.tups u.frzs u.tbls (λm' hm=>by
  obtain⟨o',es',ep',ho',r'⟩:=hm;rw[ho]at ho';cases ho'
  exact⟨_,es',ep',hL,r'⟩) hok I.bare
theorem Inv.call {g':Array GenState} {t':Nat} {d':Drawn} {ch:A3} (I:Inv X pins U H s) (u:Un (frs X.stack) ch H H' s.heap h') (hok:HOk X.prog X.w H' h') (hg:AllBare g')
  (hch:∀b∈ch,(b∈X.ex\/X.s₀.heap.objs.size<=b)/\b≠X.env.locals/\(∀x c,X.env.cells.lookup x=some c->c≠b)/\∀p∈X.pn++pins,p.1≠b) :
  Inv X pins U H' { s with heap:=h',gens:=g',drawn:=d',toks:=t' }:=by
 obtain⟨m,⟨o,es,ep,ho,r⟩,_⟩:=id I.loc;obtain⟨sl,hL⟩:=u.any ho I.free λz=>(hch _ z).2.1 rfl
 exact I.step (ch:=ch) hch (λb o hL hb hc e n=>u.keep b o e n (λz=>(Qk.mp (I.stkSub b z)).elim hL hb) hc) (λb o _ _ hc e n=>u.any e n hc) (λb o hc e n=>u.free b o e n hc) (λb o hc e=>u.there b o e hc) u.tups u.frzs u.tbls (λm' hm=>by
  obtain⟨o',es',ep',ho',r'⟩:=hm;rw[ho]at ho';cases ho'
  exact⟨_,es',ep',hL,r'⟩) hok hg
theorem Inv.turned {t':Nat} {it:Addr} (I:Inv X pins U H s) (k:∀b o,b≠it->s.heap.get? b=some o->h'.get? b=some o) (hn:H it=none) (hL:it≠X.env.locals)
  (h1:it∈X.ex\/X.s₀.heap.objs.size<=it) (h2:∀x c,X.env.cells.lookup x=some c->c≠it) (h3:∀p∈X.pn++pins,p.1≠it):Inv X pins U H { s with heap:=h',toks:=t' }:=by
 have nit:∀b u,H b=some u->b≠it:=λb u e z=>by rw[z,hn]at e;cases e
 refine I.step (g':=s.gens) (d':=s.drawn) (ch:=[it]) (λb hb=>?_) (λb o _ _ hc e _=>k b o (λz=>hc (by simp[z])) e) (λb o _ _ hc e _=>⟨o.slots,k b o (λz=>hc (by simp[z])) e⟩) (λ_ _ _ _ n=>n)
  (λb o hc e=>⟨o,k b o (λz=>hc (by simp[z])) e⟩) (λ_ _ e=>e) (λ_ _ _ e=>e) (λb ps e=>⟨#[],by rw[e];simp⟩) (λm hm=>?_) (λb u e=>?_) I.bare
 ·have e:b=it:=by simpa using hb
  subst e;exact⟨h1,hL,h2,h3⟩
 ·obtain⟨o,es,ep,ho,r⟩:=hm;exact⟨o,es,ep,k _ o (Ne.symm hL) ho,r⟩
 refine(I.hok b u e).stay (λc v hc q=>k c v ?_ q) (λ_ q=>q) λ_ _ q=>q;rcases hc with z|z
 ·rw[z];exact nit b u e
 exact nit c _ z
theorem Inv.tok (I:Inv X pins U H s) (t:Nat):Inv X pins U H { s with toks:=t }:=I.un (h':=s.heap) (t':=t) Un.refl I.hok
theorem Inv.kept {t':Nat} (I:Inv X pins U H s) (k:∀b u,s.heap.get? b=some u->h'.get? b=some u):Inv X pins U H { s with heap:=h',toks:=t' }:=I.un (Un.kept k) (I.hok.kept k)
theorem Inv.laid {a:Addr} {o:HO} {t':Nat} (I:Inv X pins U H s) (k:∀b u,s.heap.get? b=some u->h'.get? b=some u) (hp:s.heap.objs.size<=a) (new:a_ X.prog X.w (upd H a o) h' a o) :
  Inv X pins U (upd H a o) { s with heap:=h',toks:=t' }:=I.un (Un.laid k hp (I.hok.fresh hp)) (I.hok.laid k hp new)
theorem Inv.write {x e:Addr} {o:HO} {t':Nat} (I:Inv X pins U H s) (mu:Mut (H x)) (he:e=x\/H e=some (.own x)) (k:∀b u,b≠e->s.heap.get? b=some u->h'.get? b=some u) (heo:∃u,h'.get? e=some u)
  (new:a_ X.prog X.w (upd H x o) h' x o):Inv X pins U (upd H x o) { s with heap:=h',toks:=t' }:=I.un (Un.write mu he k heo) (I.hok.write mu he k heo new)
theorem Inv.weak {σ':List (Option V)} (I:Inv X pins U H s) (hl:σ'.length=U.length) (w:∀(i:Nat) v,σ'[i]?=some (some v)->U[i]?=some (some v)):Inv X pins σ' H s :=
 ⟨I.ok,I.os,I.bare,I.base,let ⟨m,hn,hl'⟩:=I.loc;⟨m,hn,λi x v e1 e2 e3=>hl' i x v e1 (w i v e2) e3⟩,I.cell,I.free,I.freeC,I.pin,I.hok,hl.trans I.len⟩
theorem Inv.pins_of {pins':A1} (I:Inv X pins U H s) (h:∀p∈pins',s.heap.get? p.1=some p.2/\H p.1=none/\p.1≠X.env.locals/\p.1∉X.fs/\∀v,p.2.data≠.cell v):Inv X pins' U H s :=
 ⟨I.ok,I.os,I.bare,I.base,I.loc,I.cell,I.free,I.freeC,λp hp=>(Qw.mp hp).elim (λz=>I.pin p (Q1 _ z)) (h p),I.hok,I.len⟩
theorem lC {N:List Str} (hN:N.Nodup) {i j:Nat} {x:Str} (a:N[i]?=some x) (b:N[j]?=some x):i=j:=by
 obtain⟨h1,e1⟩:=Qf.mp a;obtain⟨h2,e2⟩:=Qf.mp b;exact(List.getElem_inj hN).mp (e1.trans e2.symm)
variable {Q:Unit->Shared->Prop} {E:A0}
theorem iR {M:Model} {A:Around} {i:Nat} {x:Str} {v:V} {u:Value} (I:Inv X pins U H s) (hN:X.N.Nodup) (hi:X.N[i]?=some x) (hx:Loc X.env.scope x) (r:aU v u)
  (h:∀s',Inv X pins (U.set i (some v)) H s'->(∃a,Heap.SameBut a s.heap s'.heap/\(a=X.env.locals\/X.env.cells.lookup x=some a))->Q () s') (hf:X.fn x=true\/X.env.scope.names.lookup x=some .local:=by z_go):wpAny M A (storeName X.env x u) Q E s:=by
 obtain⟨m,hn,hl⟩:=id I.loc;have hcls:(X.env.scope.kind==.class || (X.env.scope.kind==.module&&X.env.locals != X.env.globals))=false:=by rw[I.ok.kind];rfl
 have hiσ:i<U.length:=by rw[I.len];exact(Qf.mp hi).1
 have cne:=I.cne
 have tracked:∀{a:Addr} {h':Heap},(∃o,s.heap.get? a=some o/\H a=none)->Heap.SameBut a s.heap h'->HOk X.prog X.w H h':=λ{a h'} ha hs b ob e=>by
  obtain⟨_,_,hfree⟩:=ha;refine(I.hok b ob e).stay (λc w' hc q=>(hs.2 c ?_).trans q) (λ_ q=>q) λ_ _ q=>q;rintro rfl;rcases hc with rfl|hc
  ·rw[hfree]at e;cases e
  rw[hfree]at hc;cases hc
 rcases hx with hk|hk
 ·refine wpAny_storeName_local hk hn (λh' hn' hs=>?_) hcls;obtain⟨oL,_,_,hoL,_⟩:=id hn;refine h _ ⟨I.ok,I.os,I.bare,⟨λb o e n hb hx=>?_,λb o e n hb hx=>?_,I.base.free,λb o e hx=>?_,I.base.tups,I.base.frzs,I.base.tbls⟩,⟨_,hn',λj y v' e1 e2 e3=>?_⟩,λy c e=>?_,I.free,I.freeC,λp hp=>?_,tracked ⟨oL,hoL,I.free⟩ hs,by simpa using I.len⟩ ⟨_,hs,.inl rfl⟩
  ·exact(hs.2 b (QF (QR (Qo e) I.ok.above))).trans (I.base.keep b o e n hb hx)
  ·obtain⟨sl,e1⟩:=I.base.slot b o e n hb hx;exact⟨sl,(hs.2 b (QF (QR (Qo e) I.ok.above))).trans e1⟩
  ·obtain⟨o',e1⟩:=I.base.there b o e hx;exact⟨o',(hs.2 b (QF (QR (Qo e) I.ok.above))).trans e1⟩
  ·by_cases hj:j=i
   ·subst hj;rw[hi]at e1;cases e1;rw[List.getElem?_set_self hiσ]at e2;cases e2;exact⟨u,r,.inl ⟨hk,by simp⟩⟩
   rw[List.getElem?_set_ne (Ne.symm hj)]at e2;obtain⟨u',r',q⟩:=hl j y v' e1 e2 e3;refine⟨u',r',?_⟩;rcases q with⟨k,e⟩|⟨k,c,e,z⟩
   ·refine .inl ⟨k,?_⟩;have:y≠x:=λe=>hj (lC hN e1 (e▸hi));simp[this,e]
   exact .inr ⟨k,c,e,z.sameBut hs (cne y c e)⟩
  ·obtain⟨w',z⟩:=I.cell y c e;exact⟨w',z.sameBut hs (cne y c e)⟩
  obtain⟨e,n,ne,nf,d⟩:=I.pin p hp;exact⟨(hs.2 p.1 ne).trans e,n,ne,nf,d⟩
 have hfn:X.fn x=true:=by
  rcases hf with z|z
  ·exact z
  rw[z]at hk;cases hk
 obtain⟨c,hc⟩:=I.ok.has x (.inl hk);obtain⟨w',z⟩:=I.cell x c hc;refine wpAny_storeName_cell I.ok.kind hk hc z (λh' hc' hs=>?_);obtain⟨oc,hoc,hocd⟩:=id z;refine h { s with heap:=h' } ⟨I.ok,I.os,I.bare,⟨λb o e n hb hx=>?_,λb o e n hb hx=>?_,I.base.free,λb o e hx=>?_,I.base.tups,I.base.frzs,I.base.tbls⟩,⟨m,hn.sameBut hs (Ne.symm (cne x c hc)),λj y v' e1 e2 e3=>?_⟩,λy c' e=>?_,I.free,I.freeC,λp hp=>?_,tracked ⟨oc,hoc,I.freeC x c hc⟩ hs,by simpa using I.len⟩ ⟨c,hs,.inr hc⟩
 ·exact(hs.2 b (QF (QR (Qo e) (I.ok.cab x c hfn hc)))).trans (I.base.keep b o e n hb hx)
 ·obtain⟨sl,e1⟩:=I.base.slot b o e n hb hx;exact⟨sl,(hs.2 b (QF (QR (Qo e) (I.ok.cab x c hfn hc)))).trans e1⟩
 ·obtain⟨o',e1⟩:=I.base.there b o e hx;exact⟨o',(hs.2 b (QF (QR (Qo e) (I.ok.cab x c hfn hc)))).trans e1⟩
 ·by_cases hj:j=i
  ·subst hj;rw[hi]at e1;cases e1;rw[List.getElem?_set_self hiσ]at e2;cases e2;exact⟨u,r,.inr ⟨.inl hk,c,hc,hc'⟩⟩
  rw[List.getElem?_set_ne (Ne.symm hj)]at e2;obtain⟨u',r',q⟩:=hl j y v' e1 e2 e3;refine⟨u',r',?_⟩;rcases q with q|⟨k,c',e,z'⟩
  ·exact .inl q
  refine .inr ⟨k,c',e,z'.sameBut hs ?_⟩;rintro rfl;exact hj (lC hN e1 (I.ok.inj _ _ _ e hc▸hi))
 ·by_cases hcc:c'=c
  ·subst hcc;exact⟨_,hc'⟩
  obtain⟨w2,z2⟩:=I.cell y c' e;exact⟨w2,z2.sameBut hs hcc⟩
 obtain⟨e,n,ne,nf,d⟩:=I.pin p hp;refine⟨(hs.2 p.1 ?_).trans e,n,ne,nf,d⟩;intro q;rw[q,hoc]at e;have q':oc=p.2:=QH e;exact d w' (by rw[<-q'];exact hocd)
theorem kK {M:Model} {A:Around} {i:Nat} {x:Str} {v:V} {u:Value} (I:Inv X pins U H s) (hN:X.N.Nodup) (hi:X.N[i]?=some x) (hx:Loc X.env.scope x) (r:aU v u)
  (h:∀s',Inv X pins (U.set i (some v)) H s'->Q () s') (hf:X.fn x=true\/X.env.scope.names.lookup x=some .local:=by z_go):wpAny M A (storeName X.env x u) Q E s :=
 iR I hN hi hx r (λs' I' _=>h s' I') hf
theorem Inv.call' {s':Shared} {ch:A3} (I:Inv X pins U H s) (ho:s'.os=s.os) (u:Un (frs X.stack) ch H H' s.heap s'.heap) (hok:HOk X.prog X.w H' s'.heap) (hg:AllBare s'.gens)
  (hch:∀b∈ch,(b∈X.ex\/X.s₀.heap.objs.size<=b)/\b≠X.env.locals/\(∀x c,X.env.cells.lookup x=some c->c≠b)/\∀p∈X.pn++pins,p.1≠b):Inv X pins U H' s':=by
 obtain⟨h',g',d',t',o'⟩:=s';have e:o'=s.os:=ho;subst e;exact I.call (g':=g') (t':=t') (d':=d') u hok hg hch
end
abbrev XK:=Value->Option Addr->Hp->Prop
abbrev St:=List (Option V)
abbrev VK:=V->Hp->Prop
abbrev TE:=St->Hp->VK->Prop
abbrev TT:=St->Hp->(Bool->Hp->Prop)->Prop
abbrev TA:=St->Hp->(List V->Hp->Prop)->Prop
structure Ends where
 nx:St->Hp->Prop
 rt:VK
 bk:St->Hp->Prop:=λ_ _=>False
 ct:St->Hp->Prop:=λ_ _=>False
abbrev TS:=Ends->St->Hp->Prop
def EP (X:Cx) (pins:A1) (U:St) (Q:VK) (u:Value) (s':Shared):Prop:=∃v H',Inv X pins U H' s'/\aU v u/\Q v H'
def TP (X:Cx) (pins:A1) (U:St) (Q:Bool->Hp->Prop) (b:Bool) (s':Shared):Prop:=∃H',Inv X pins U H' s'/\Q b H'
def AP (X:Cx) (pins:A1) (U:St) (Q:List V->Hp->Prop) (us:List Value) (s':Shared):Prop:=∃vs H',Inv X pins U H' s'/\aO vs us/\Q vs H'
def SP (X:Cx) (pins:A1) (D:Ends) (f:Flow) (s':Shared):Prop :=
 match f with
 | .next=>∃σ' H',Inv X pins σ' H' s'/\D.nx σ' H'
 | .brk=>∃σ' H',Inv X pins σ' H' s'/\D.bk σ' H'
 | .cont=>∃σ' H',Inv X pins σ' H' s'/\D.ct σ' H'
 | .ret u=>∃v σ' H',Inv X pins σ' H' s'/\aU v u/\D.rt v H'
def PE (X:Cx) (e:Expr) (t:TE):Prop :=
 ∀(pins:A1) (s:Shared) (U:St) (H:Hp) (Q:VK),Inv X pins U H s->t U H Q->wpAny (model X.prog X.w) X.A (eval e X.env) (EP X pins U Q) X.xe s
def PT (X:Cx) (e:Expr) (t:TT):Prop :=
 ∀(pins:A1) (s:Shared) (U:St) (H:Hp) (Q:Bool->Hp->Prop),Inv X pins U H s->t U H Q->wpAny (model X.prog X.w) X.A (isTrue e X.env (eval e X.env)) (TP X pins U Q) X.xe s
def PW (X:Cx) (e:Expr) (t:TT):Prop :=
 ∀(whole:Sem Value) (pins:A1) (s:Shared) (U:St) (H:Hp) (Q:Bool->Hp->Prop),Inv X pins U H s->t U H Q->wpAny (model X.prog X.w) X.A (isTrue e X.env whole) (TP X pins U Q) X.xe s
variable {X:Cx}
theorem PW.pt {e:Expr} {t:TT} (h:PW X e t):PT X e t:=h _
def PA (X:Cx) (es:List Expr) (t:TA):Prop :=
 ∀(pos:Pos) (pins:A1) (s:Shared) (U:St) (H:Hp) (Q:List V->Hp->Prop),Inv X pins U H s->t U H Q->wpAny (model X.prog X.w) X.A (spliced (backTo pos (starEach es X.env))) (AP X pins U Q) X.xe s
def PS (X:Cx) (st:Stmt) (t:TS):Prop :=
 ∀(pins:A1) (s:Shared) (U:St) (H:Hp) (D:Ends),Inv X pins U H s->t D U H->wpAny (model X.prog X.w) X.A (exec st X.env) (SP X pins D) X.xe s
def PSs (X:Cx) (st:List Stmt) (t:TS):Prop :=
 ∀(pins:A1) (s:Shared) (U:St) (H:Hp) (D:Ends),Inv X pins U H s->t D U H->wpAny (model X.prog X.w) X.A (execs st X.env) (SP X pins D) X.xe s
variable {s s1:Shared} {E:A0}
theorem thn {α:Type} {t:Sem α} {Q Q':α->Shared->Prop} {M:Model} (h:wpAny M A t Q E s) (hQ:∀a s,Q a s->Q' a s):wpAny M A t Q' E s:=XV h hQ λ_ _ x=>x
section
variable {X:Cx}
def fA (i:Nat):TE:=λU H Q=>∃v,U[i]?=some (some v)/\Q v H
def tC (v:V):TE:=λ_ H Q=>Q v H
variable {x:Str}
theorem wN {i:Nat} {pos:Pos} (hN:X.N[i]?=some x) (hv:Vis X.env.scope x) (hd:(x==("__debug__" : Str))=false:=by decide) (hcd:(x==("__classdict__" : Str))=false:=by decide):PE X (.Name x pos) (fA i):=by
 intro pins s U H Q I h;obtain⟨v,e,h⟩:=h;obtain⟨m,hn,hl⟩:=I.loc;obtain⟨u,r,l⟩:=hl i x v hN e hv;have fin:EP X pins U Q u s:=⟨v,H,I,r,h⟩;rcases l with⟨hk,hm⟩|⟨hk,c,hc,hcell⟩
 ·exact wpAny_Name (wpAny_loadName_local I.ok.kind hk hn hm fin) hd
 rcases hk with hk|hk
 ·exact wpAny_Name (wpAny_loadName_cell I.ok.kind hk hc hcell fin) hd
 exact wpAny_Name (wpAny_loadName_free I.ok.kind hk hc hcell fin hcd) hd
theorem ae {i j pos}:PE X (.Constant (.int i) j pos) (tC (.int i)):=λ_ _ _ H _ I h=>wpAny_Constant_int ⟨.int i,H,I.tok _,⟨_,rfl⟩,h⟩
theorem c9 {b j pos}:PE X (.Constant (.bool b) j pos) (tC (.bl b)):=λ_ _ _ H _ I h=>Constant_bool ⟨.bl b,H,I,rfl,h⟩
theorem se {j pos}:PE X (.Constant .none j pos) (tC .non):=λ_ _ _ H _ I h=>Constant_none ⟨.non,H,I,rfl,h⟩
theorem ba {x j pos}:PE X (.Constant (.str x) j pos) (tC (.str x)):=λ_ _ _ H _ I h=>Calls.Constant_str ⟨.str x,H,I.tok _,⟨_,rfl⟩,h⟩
def Gl (X:Cx) (x:Str):Prop:=X.env.kindOf x=some .globalImplicit
variable {Q E:A0} {u:Value} {pins:A1}
theorem pc {s:Shared} {U:St} {H:Hp} {pos:Pos} (I:Inv X pins U H s) (hg:Gl X x) (hm:X.mg x=some u) (h:Q u s)
  (hd:(x==("__debug__" : Str))=false:=by decide):wpAny (model X.prog X.w) X.A (eval (.Name x pos) X.env) Q E s :=
 Calls.Name_function_global I.ok.kind hg (Calls.loadGlobal_global (by rw[I.ok.glob];exact I.mod.glob.keeps I.bk) hm h) hd
theorem cr {s:Shared} {U:St} {H:Hp} {pos:Pos} (I:Inv X pins U H s) (hg:Gl X x) (hm:X.mg x=none) (hv:bootBuiltins x=some u) (h:Q u s)
  (hn:x ≠ "__name__" := by decide) (hd:(x==("__debug__" : Str))=false:=by decide):wpAny (model X.prog X.w) X.A (eval (.Name x pos) X.env) Q E s:=by
 obtain⟨mb,h1,h2⟩:=I.mod.blt;exact Calls.Name_function_global I.ok.kind hg (Calls.loadGlobal_builtin (by rw[I.ok.glob];exact I.mod.glob.keeps I.bk) hm (by rw[I.ok.blt];exact h1.keeps I.bk) ((h2 x hn).trans hv) h) hd
theorem c8 {v:V} {pos:Pos} (hg:Gl X x) (hm:X.mg x=some u) (r:aU v u) (hd:(x==("__debug__" : Str))=false:=by decide):PE X (.Name x pos) (tC v) :=
 λ_ _ _ H _ I h=>pc I hg hm ⟨v,H,I,r,h⟩ hd
theorem cE {v:V} {pos:Pos} (hg:Gl X x) (hm:X.mg x=none) (hv:bootBuiltins x=some u) (r:aU v u) (hn:x ≠ "__name__" := by decide) (hd:(x==("__debug__" : Str))=false:=by decide):PE X (.Name x pos) (tC v) :=
 λ_ _ _ H _ I h=>cr I hg hm hv ⟨v,H,I,r,h⟩ hn hd
variable {a b:Expr} {ta tb:TE} {pos:Pos}
def PC (X:Cx) (op:CmpOp) (a b:Expr) (t:TE):Prop :=
 ∀(pins:A1) (s:Shared) (U:St) (H:Hp) (Q:VK),Inv X pins U H s->t U H Q ->
  wpAny (model X.prog X.w) X.A (eval a X.env) (λv s₁=>wpAny (model X.prog X.w) X.A (eval b X.env) (λu s₂=>wpAny (model X.prog X.w) X.A (compareOp op v u) (EP X pins U Q) X.xe s₂) X.xe s₁) X.xe s
def tB (t:TE):TT:=λU H Q=>t U H λx H1=>∃c,x=.bl c/\Q c H1
theorem wK {op:CmpOp} {t:TE} (h:PC X op a b t) (h1:behindInMarks op b=false:=by first|exact nobehind _ (by decide) (by decide)|rfl):PT X (.Compare a [op] [b] pos) (tB t):=by
 intro pins s U H Q I hw;refine wpAny_isTrue_Compare1 (thn (h pins s U H _ I hw) λv s1 h1=>thn h1 λu s2 h2=>thn h2 λc s3 ⟨x,H1,I1,r1,q1⟩=>?_) h1;obtain⟨d,rfl,q⟩:=q1;cases r1;exact XM ⟨H1,I1,q⟩
theorem ca {e:Expr} {t:TE} (h:PE X e t) (he:∀whole,isTrue e X.env whole=(do let v <-whole;standAt e.pos;holding [v] (truthy v)):=by intro _;rfl):PT X e (tB t):=by
 intro pins s U H Q I hw;refine isTrue_plain (thn (h pins s U H _ I hw) λv s1 ⟨x,H1,I1,r1,q1⟩=>?_) (he _);obtain⟨d,rfl,q⟩:=q1;cases r1;exact XM ⟨H1,I1,q⟩
variable {tA tB':TT} {rest:List Expr}
def xM (t u:TT):TT:=λU H Q=>t U H λc H1=>if c=true then u U H1 Q else Q false H1
def tOr (t u:TT):TT:=λU H Q=>t U H λc H1=>if c=true then Q true H1 else u U H1 Q
def xI (t:TT):TT:=λU H Q=>t U H λc H1=>Q (!c) H1
theorem oJ (ha:PT X a tA):PW X (.BoolOp .And [a] pos) tA:=by
 intro wh pins s U H Q I h;refine isTrue_and (thn (ha pins s U H Q I h) λc s1 e=>?_)
 cases c with
 | true=>exact isTrue_and_nil e
 | false=>exact e
theorem dC (ha:PT X a tA):PW X (.BoolOp .Or [a] pos) tA:=by
 intro wh pins s U H Q I h;refine isTrue_or (thn (ha pins s U H Q I h) λc s1 e=>?_)
 cases c with
 | false=>exact isTrue_or_nil e
 | true=>exact e
theorem rT (ha:PT X a tA) (hb:PW X (.BoolOp .And (b::rest) pos) tB'):PW X (.BoolOp .And (a::b::rest) pos) (xM tA tB'):=by
 intro wh pins s U H Q I h;refine isTrue_and (thn (ha pins s U H _ I h) λc s1 ⟨H1,I1,q1⟩=>?_)
 cases c with
 | true=>exact hb wh pins s1 U H1 Q I1 q1
 | false=>exact⟨H1,I1,q1⟩
theorem dW (ha:PT X a tA) (hb:PW X (.BoolOp .Or (b::rest) pos) tB'):PW X (.BoolOp .Or (a::b::rest) pos) (tOr tA tB'):=by
 intro wh pins s U H Q I h;refine isTrue_or (thn (ha pins s U H _ I h) λc s1 ⟨H1,I1,q1⟩=>?_)
 cases c with
 | true=>exact⟨H1,I1,q1⟩
 | false=>exact hb wh pins s1 U H1 Q I1 q1
theorem ci (ha:PT X a tA):PT X (.UnaryOp .Not a pos) (xI tA):=by
 intro pins s U H Q I h;exact isTrue_not (ha pins s U H (λc H1=>Q (!c) H1) I h)
def vG (ta tb:TE):TE:=λU H Q=>ta U H λx H1=>∃c,x=.bl c/\if c=true then tb U H1 Q else Q (.bl false) H1
def yH (ta tb:TE):TE:=λU H Q=>ta U H λx H1=>∃c,x=.bl c/\if c=true then Q (.bl true) H1 else tb U H1 Q
def vD (ta:TE):TE:=λU H Q=>ta U H λx H1=>∃c,x=.bl c/\Q (.bl (!c)) H1
theorem dD {op} {t:TE} (h:PE X a t):PE X (.BoolOp op [a] pos) t:=λpins s U H Q I hw=>BoolOp_one (h pins s U H Q I hw)
theorem dg (ha:PE X a ta) (hb:PE X (.BoolOp .And (b::rest) pos) tb):PE X (.BoolOp .And (a::b::rest) pos) (vG ta tb):=by
 intro pins s U H Q I h;refine BoolOp_and (thn (ha pins s U H _ I h) λv s1 ⟨x,H1,I1,r1,q1⟩=>?_);obtain⟨c,rfl,q1⟩:=q1;cases r1;refine XM ?_
 cases c with
 | true=>exact hb pins s1 U H1 Q I1 q1
 | false=>exact⟨.bl false,H1,I1,rfl,q1⟩
theorem wO (ha:PE X a ta):PE X (.UnaryOp .Not a pos) (vD ta):=by
 intro pins s U H Q I h;refine UnaryOp_ (thn (ha pins s U H _ I h) λv s1 ⟨x,H1,I1,r1,q1⟩=>?_);obtain⟨c,rfl,q1⟩:=q1;cases r1;exact not_of (XM ⟨.bl (!c),H1,I1,rfl,q1⟩)
def tIf (t:TT) (ta tb:TE):TE:=λU H Q=>t U H λc H1=>if c=true then ta U H1 Q else tb U H1 Q
theorem lq {c:Expr} (hc:PT X c tA) (ha:PE X a ta) (hb:PE X b tb):PE X (.IfExp c a b pos) (tIf tA ta tb):=by
 intro pins s U H Q I h;refine wpAny_IfExp (thn (hc pins s U H _ I h) λd s1 ⟨H1,I1,q1⟩=>?_)
 cases d with
 | true=>exact ha pins s1 U H1 Q I1 q1
 | false=>exact hb pins s1 U H1 Q I1 q1
end
def SqL (K:PySem.W.Frag) (H:Hp) (a:Addr) (xs:List V):Prop :=
 Rd H a (.lst xs) \/
  ∃(o:Obj) (its:Array Value) (n:Nat),K.lookup a=some o/\o.cls=.type "list" /\ o.dict=none/\o.data=.seq its n/\its.size<=sizeLine/\aO xs its.toList
def SqT (K:PySem.W.Frag) (H:Hp) (a:Addr) (xs:List V):Prop :=
 Rd H a (.tup xs) \/
  ∃(o:Obj) (its:Array Value) (n:Nat),K.lookup a=some o/\o.cls=.type "tuple" /\ o.data=.seq its n/\its.size<=sizeLine/\aO xs its.toList
noncomputable def yP:Value->Option V
 | .none=>some .non
 | .bool b=>some (.bl b)
 | .int i _=>some (.int i)
 | .str x _=>some (.str x)
 | .bytes b _=>some (.byt b)
 | .float b _=>some (.flt b)
 | .ref a=>some (.ref a)
 | .type n=>some (.ty n)
 | _=>none
theorem aU.abs {x:V} (r:aU x u):yP u=some x:=by
 cases x with
 | non=>cases r;rfl
 | bl _=>cases r;rfl
 | int _=>obtain⟨t,rfl⟩:=r;rfl
 | str _=>obtain⟨t,rfl⟩:=r;rfl
 | byt _=>obtain⟨t,rfl⟩:=r;rfl
 | flt _=>obtain⟨t,rfl⟩:=r;rfl
 | ref _=>cases r;rfl
 | ty _=>cases r;rfl
theorem aU.inj {x y:V} (r:aU x u) (q:aU y u):x=y:=QH (r.abs.symm.trans q.abs)
theorem aO.inj:∀{xs ys:List V} {us:List Value},aO xs us->aO ys us->xs=ys
 | _,_,_,.nil,.nil=>rfl
 | _,_,_,.cons r t,.cons r' t'=>by rw[r.inj r',aO.inj t t']
section
variable {X:Cx} {pins:A1} {U:St} {H:Hp} {s:Shared} {a:Addr} {xs ys:List V}
theorem SqL.of {K:PySem.W.Frag} (h:H a=some (.lst xs)):SqL K H a xs:=.inl (.inl h)
theorem SqT.of {K:PySem.W.Frag} (h:H a=some (.tup xs)):SqT K H a xs:=.inl (.inl h)
theorem Inv.list (I:Inv X pins U H s) (h:SqL X.K H a xs):∃its:List Value,aO xs its/\PlainL s.heap a its.toArray/\xs.length<=sizeLine:=by
 rcases h with h|⟨o,its,n,hk,hc,hd,hs,hz,r⟩
 ·obtain⟨z,its,n,r,e⟩:=h.ok I.hok;exact⟨its,r,⟨_,n,e,rfl,rfl,rfl⟩,z⟩
 refine⟨its.toList,r,⟨o,n,I.kIn a o hk,hc,hd,by simpa using hs⟩,?_⟩;have e:=r.length;simp only[Qg]at e;omega
theorem Inv.tuple (I:Inv X pins U H s) (h:SqT X.K H a xs):∃its:List Value,aO xs its/\IsTup s.heap a its.toArray/\xs.length<=sizeLine:=by
 rcases h with h|⟨o,its,n,hk,hc,hs,hz,r⟩
 ·obtain⟨z,its,r,p⟩:=h.ok I.hok;exact⟨its,r,p,z⟩
 refine⟨its.toList,r,⟨o,I.kIn a o hk,hc,n,by simpa using hs⟩,?_⟩;have e:=r.length;simp only[Qg]at e;omega
theorem Inv.list_inj (I:Inv X pins U H s) (h:SqL X.K H a xs) (h':SqL X.K H a ys):xs=ys:=by
 obtain⟨its,r,⟨o,n,e,_,_,d⟩,_⟩:=I.list h;obtain⟨its',r',⟨o',n',e',_,_,d'⟩,_⟩:=I.list h';rw[e]at e';cases e';rw[d]at d';injection d' with d1 _;have:its=its':=by simpa using congrArg Array.toList d1
 subst this;exact r.inj r'
theorem Inv.tuple_inj (I:Inv X pins U H s) (h:SqT X.K H a xs) (h':SqT X.K H a ys):xs=ys:=by
 obtain⟨its,r,⟨o,e,_,n,d⟩,_⟩:=I.tuple h;obtain⟨its',r',⟨o',e',_,n',d'⟩,_⟩:=I.tuple h';rw[e]at e';cases e';rw[d]at d';injection d' with d1 _;have:its=its':=by simpa using congrArg Array.toList d1
 subst this;exact r.inj r'
end
abbrev Cx.wish (X:Cx) (E:A0):Cx:={ X with xe:=E }
abbrev Cx.nox (X:Cx):Cx:=X.wish λ_ _=>False
theorem Cx.Ok.wish (ok:X.Ok) (E:A0):(X.wish E).Ok :=
 ⟨ok.mod,ok.kind,ok.glob,ok.blt,ok.above,ok.inj,ok.has,ok.cab,ok.hd,ok.frames,ok.stk,ok.exf,ok.bs,ok.bsz,ok.noex,ok.exfs,ok.funs,ok.frf⟩
theorem Cx.Ok.unwish (ok:(X.wish E).Ok):X.Ok :=
 ⟨ok.mod,ok.kind,ok.glob,ok.blt,ok.above,ok.inj,ok.has,ok.cab,ok.hd,ok.frames,ok.stk,ok.exf,ok.bs,ok.bsz,ok.noex,ok.exfs,ok.funs,ok.frf⟩
section
variable {X:Cx} {pins:A1} {U:St} {H:Hp} {s:Shared} {E:A0}
theorem Inv.wish (I:Inv X pins U H s) (E:A0):Inv (X.wish E) pins U H s:=⟨I.ok.wish E,I.os,I.bare,I.base,I.loc,I.cell,I.free,I.freeC,I.pin,I.hok,I.len⟩
theorem Inv.unwish (I:Inv (X.wish E) pins U H s):Inv X pins U H s:=⟨I.ok.unwish,I.os,I.bare,I.base,I.loc,I.cell,I.free,I.freeC,I.pin,I.hok,I.len⟩
theorem SP.unwish {D:Ends} {f:Flow} {s':Shared} (h:SP (X.wish E) pins D f s'):SP X pins D f s':=by
 cases f with
 | next=>obtain⟨σ',H',I,q⟩:=h;exact⟨σ',H',I.unwish,q⟩
 | brk=>obtain⟨σ',H',I,q⟩:=h;exact⟨σ',H',I.unwish,q⟩
 | cont=>obtain⟨σ',H',I,q⟩:=h;exact⟨σ',H',I.unwish,q⟩
 | ret u=>obtain⟨v,σ',H',I,r,q⟩:=h;exact⟨v,σ',H',I.unwish,r,q⟩
theorem PSs.nox {st:List Stmt} {t:TS} (h:PSs X.nox st t):PSs X st t:=λpins s U H D I hw =>
 XV (h pins s U H D (I.wish _) hw) (λ_ _ q=>q.unwish) λ_ _ z=>False.elim z
end
section
variable {X:Cx} {st:Stmt} {rest:List Stmt} {t u:TS} {e:Expr} {te:TE} {pos:Pos}
def vE:TS:=λD U H=>D.nx U H
def uf (t u:TS):TS:=λD U H=>t { D with nx:=u D } U H
theorem pss_nil:PSs X [] vE:=λ_ _ U H _ I h=>wpAny_execs_nil ⟨U,H,I,h⟩
theorem aK (h1:PS X st t) (h2:PSs X rest u):PSs X (st::rest) (uf t u):=by
 intro pins s U H D I h;refine wpAny_execs_cons (thn (h1 pins s U H { D with nx:=u D } I h) λf s1 q=>?_)
 cases f with
 | next =>
  obtain⟨σ',H',I',q⟩:=q;exact h2 pins s1 σ' H' D I' q
 | ret v=>exact q
 | brk=>exact q
 | cont=>exact q
theorem aI (h1:PS X st t):PSs X [st] t:=by
 intro pins s U H D I h;refine wpAny_execs_cons (thn (h1 pins s U H D I h) λf s1 q=>?_)
 cases f with
 | next=>exact wpAny_execs_nil q
 | ret v=>exact q
 | brk=>exact q
 | cont=>exact q
theorem Inv.quiet {pins:A1} {U:St} {H:Hp} {s:Shared} (I:Inv X pins U H s):interactive X.env=false:=by simp[interactive,I.ok.kind]
def vF (te:TE):TS:=λD U H=>te U H λ_ H1=>D.nx U H1
theorem cj (he:PE X e te) (hs:swapsWith e none pos.line X.env=pure false:=by rfl):PS X (.Expr e pos) (vF te):=by
 intro pins s U H D I h;exact wpAny_Expr_any (thn (he pins s U H _ I h) λv s1 ⟨x,H1,I1,r1,q1⟩=>⟨U,H1,I1,q1⟩) I.quiet hs
def xH (te:TE):TS:=λD U H=>te U H D.rt
theorem aD (he:PE X e te):PS X (.Return (some e) pos) (xH te):=by
 intro pins s U H D I h;exact wpAny_Return_some (thn (he pins s U H _ I h) λv s1 ⟨x,H1,I1,r1,q1⟩=>⟨x,U,H1,I1,r1,q1⟩)
def xJ (c:TT) (t u:TS):TS:=λD U H=>c U H λb H1=>if b=true then t D U H1 else u D U H1
theorem ps_if {c:Expr} {a b:List Stmt} {tc:TT} (hc:PT X c tc) (ha:PSs X a t) (hb:PSs X b u):PS X (.If c a b pos) (xJ tc t u):=by
 intro pins s U H D I h;refine wpAny_If (thn (hc pins s U H _ I h) λd s1 ⟨H1,I1,q1⟩=>?_)
 cases d with
 | true=>exact ha pins s1 U H1 D I1 q1
 | false=>exact hb pins s1 U H1 D I1 q1
end
abbrev TG:=V->St->Hp->(St->Hp->Prop)->Prop
abbrev TGs:=List V->St->Hp->(St->Hp->Prop)->Prop
def PG (X:Cx) (target:Expr) (t:TG):Prop :=
 ∀(pins:A1) (s:Shared) (U:St) (H:Hp) (v:V) (u:Value) (Q:St->Hp->Prop),Inv X pins U H s->aU v u->t v U H Q ->
  wpAny (model X.prog X.w) X.A (assign target X.env u) (λ_ s'=>∃σ' H',Inv X pins σ' H' s'/\Q σ' H') X.xe s
def PGs (X:Cx) (ts:List Expr) (t:TGs):Prop :=
 ∀(pins:A1) (s:Shared) (U:St) (H:Hp) (vs:List V) (us:List Value) (Q:St->Hp->Prop),Inv X pins U H s->aO vs us->t vs U H Q ->
  wpAny (model X.prog X.w) X.A (assignInOrder ((assignEach ts X.env).map (·.2)) us) (λ_ s'=>∃σ' H',Inv X pins σ' H' s'/\Q σ' H') X.xe s
abbrev vq:=V->V->V->Hp->(Hp->Prop)->Prop
def yC (X:Cx) (t:vq):Prop :=
 ∀(pins:A1) (s:Shared) (U:St) (H:Hp) (o i v:V) (ov iv u:Value) (Q:Hp->Prop),Inv X pins U H s->aU o ov->aU i iv->aU v u->t o i v H Q ->
  wpAny (model X.prog X.w) X.A (setItem ov iv u) (λ_ s'=>∃H',Inv X pins U H' s'/\Q H') X.xe s
section
variable {X:Cx} {pos:Pos}
def dw (i:Nat):TG:=λv U H Q=>Q (U.set i (some v)) H
variable {x:Str}
theorem bi {i:Nat} (hN:X.N.Nodup) (hi:X.N[i]?=some x) (hx:Loc X.env.scope x) (hf:X.fn x=true\/X.env.scope.names.lookup x=some .local:=by z_go):PG X (.Name x pos) (dw i):=by
 intro pins s U H v u Q I r h;exact wpAny_assign_Name (kK I hN hi hx r (λs' I'=>⟨_,H,I',h⟩) hf)
theorem bz (i:Nat) (hN:X.N.Nodup) (hi:X.N[i]?=some x:=by rfl) (hx:Loc X.env.scope x:=by z_go) (hf:X.fn x=true\/X.env.scope.names.lookup x=some .local:=by z_go):PG X (.Name x pos) (dw i):=bi hN hi hx hf
def yM:TGs:=λvs U H Q=>vs=[]/\Q U H
def yt (t:TG) (u:TGs):TGs:=λvs U H Q=>∃v r,vs=v::r/\t v U H λσ' H'=>u r σ' H' Q
theorem bT:PGs X [] yM:=by
 intro pins s U H vs us Q I r h;obtain⟨e,h⟩:=h;subst e;cases r;exact assignInOrder_nil ⟨U,H,I,h⟩
theorem aH {e:Expr} {es:List Expr} {t:TG} {u:TGs} (h1:PG X e t) (h2:PGs X es u)
  (hs:(assignEach (e::es) X.env).map (·.2)=assign e X.env::(assignEach es X.env).map (·.2):=by rfl):PGs X (e::es) (yt t u):=by
 intro pins s U H vs us Q I r h;obtain⟨v,vr,e1,h⟩:=h;subst e1
 cases r with
 | cons r rr =>
 rw[hs];refine assignInOrder_cons (thn (h1 pins s U H _ _ _ I r h) λ_ s1 ⟨σ1,H1,I1,q1⟩=>?_);exact h2 pins s1 σ1 H1 _ _ Q I1 rr q1
def yq (K:PySem.W.Frag) (n:Nat) (t:TGs):TG:=λv U H Q=>∃a xs,v=.ref a/\SqT K H a xs/\xs.length=n/\t xs U H Q
theorem dX {es:List Expr} {k:Nat} {t:TGs} {n:Nat} (hc:X.calm=true) (h:PGs X es t)
  (hn:(assignEach es X.env).length=n:=by rfl) (hst:(assignEach es X.env).findIdx? (·.1)=none:=by rfl):PG X (.Tuple es k pos) (yq X.K n t):=by
 intro pins s U H v u Q I r hw;obtain⟨a,xs,e1,hq,hl,hw⟩:=hw;subst e1;cases r;obtain⟨its,rv,ht,hz⟩:=I.tuple hq;refine assign_Tuple_tuple (I.ok.hd hc) ht (by simp[hn,<-hl,rv.length]) hst λh' hx=>?_;have I1:Inv X pins U H { s with heap:=h' }:=I.kept (t':=s.toks) λb o e=>hx b o (QF (Qo e)) e;exact h pins _ U H xs _ Q I1 (by simpa using rv) hw
def yr (to ti:TE) (t:vq):TG:=λv U H Q=>to U H λo H1=>ti U H1 λi H2=>t o i v H2 λH3=>Q U H3
variable {to ti te:TE}
theorem r9 {o i:Expr} {t:vq} (ho:PE X o to) (hi:PE X i ti) (hs:yC X t)
  (ha:∀v,assign (.Subscript o i pos) X.env v=(do
   let ov <-holding [v] (eval o X.env);let iv <-holding [v,ov] (eval i X.env)
   standAt pos
   holding [v,ov,iv] (setItem ov iv v)
   release [v,ov,iv] []):=by intro _;rfl):PG X (.Subscript o i pos) (yr to ti t):=by
 intro pins s U H v u Q I r h;rw[ha];refine Qa (QT (thn (ho pins s U H _ I h) λov s1 ⟨x,H1,I1,r1,q1⟩=>?_));refine Qa (QT (thn (hi pins s1 U H1 _ I1 q1) λiv s2 ⟨y,H2,I2,r2,q2⟩=>?_));refine Qa (wpAny_standAt (Qa (QT (thn (hs pins s2 U H2 x y v ov iv u _ I2 r1 r2 r q2) λ_ s3 ⟨H3,I3,q3⟩=>?_))));exact wpAny_release ⟨U,H3,I3,q3⟩
def rB (te:TE) (g:TG):TS:=λD U H=>te U H λx H1=>g x U H1 D.nx
theorem gK {tg e:Expr} {g:TG} (he:PE X e te) (hg:PG X tg g) (hs:swapsWithSole [tg] e pos.line X.env=pure false:=by rfl) (hw:swappedStores [tg] e X.env=pure none:=by rfl)
  (h1:(assignEach [tg] X.env).map (·.2)=[assign tg X.env]:=by rfl):PS X (.Assign [tg] e pos) (rB te g):=by
 intro pins s U H D I h;refine wpAny_Assign_stores (thn (he pins s U H _ I h) λv s1 ⟨x,H1,I1,r1,q1⟩=>?_) hs hw;rw[h1];exact thn (hg pins s1 U H1 x v _ I1 r1 q1) λ_ s2 q=>q
theorem rX {i:Nat} {e:Expr} {pos':Pos} (hN:X.N.Nodup) (hi:X.N[i]?=some x) (hx:Loc X.env.scope x) (he:PE X e te) (hs:swapsWith e (some (.Name x pos')) pos.line X.env=pure false:=by rfl) (hf:X.fn x=true\/X.env.scope.names.lookup x=some .local:=by z_go) :
  PS X (.Assign [.Name x pos'] e pos) (rB te (dw i)):=by
 intro pins s U H D I h;refine wpAny_Assign_Name (thn (he pins s U H _ I h) λv s1 ⟨y,H1,I1,r1,q1⟩=>?_) hs;exact kK I1 hN hi hx r1 (λs2 I2=>⟨_,H1,I2,q1⟩) hf
theorem aL {e:Expr} {pos':Pos} (i:Nat) (hN:X.N.Nodup) (he:PE X e te) (hi:X.N[i]?=some x:=by rfl) (hx:Loc X.env.scope x:=by z_go) (hs:swapsWith e (some (.Name x pos')) pos.line X.env=pure false:=by rfl) (hf:X.fn x=true\/X.env.scope.names.lookup x=some .local:=by z_go):PS X (.Assign [.Name x pos'] e pos) (rB te (dw i)):=rX hN hi hx he hs hf
end
section
variable {X:Cx} {pos:Pos}
def wv (c:TT) (tb:TS):TS:=λD U H=>∃W:Nat->St->Hp->Prop,(∃m,W m U H)/\∀m U H,W m U H ->
 c U H λb H1=>if b=true then ∃N:St->Hp->Prop,(∀σ' H',N σ' H'->∃m',m'<m/\W m' σ' H')/\tb { D with nx:=N,ct:=N,bk:=D.nx } U H1 else D.nx U H1
theorem gJ {c:Expr} {body:List Stmt} {tc:TT} {tb:TS} (hp:PassesOwn (model X.prog X.w) X.A X.env X.xe) (hc:PT X c tc) (hb:PSs X body tb):PS X (.While c body [] pos) (wv tc tb):=by
 intro pins s U H D I h;obtain⟨W,⟨m0,w0⟩,turn⟩:=h;refine wpAny_While (codeAny_whileLoop (λn s'=>∃σ' H',Inv X pins σ' H' s'/\W n σ' H') ?_ m0 ⟨U,H,I,w0⟩);rintro n s1 ⟨σ1,H1,I1,w1⟩;refine wpAny_passesOwn hp (thn (hc pins s1 σ1 H1 _ I1 (turn n σ1 H1 w1)) λb s2 ⟨H2,I2,q2⟩=>?_)
 cases b with
 | true =>
  obtain⟨N,hN,q2⟩:=q2;rw[Qs rfl];refine wpAny_passesOwn hp (thn (hb pins s2 σ1 H2 _ I2 q2) λf s3 q3=>?_)
  cases f with
  | next =>
   obtain⟨σ3,H3,I3,n3⟩:=q3;obtain⟨m',hm,w3⟩:=hN σ3 H3 n3;exact⟨m',hm,σ3,H3,I3,w3⟩
  | cont =>
   obtain⟨σ3,H3,I3,n3⟩:=q3;obtain⟨m',hm,w3⟩:=hN σ3 H3 n3;exact⟨m',hm,σ3,H3,I3,w3⟩
  | brk=>exact q3
  | ret v=>exact q3
 | false =>
 rw[Qq Qp];exact wpAny_execs_nil ⟨σ1,H2,I2,q2⟩
end
structure It where
 go:Nat->Hp->Prop
 yld:Nat->Hp->V->Hp->Prop
 stop:Nat->Hp->Prop
def d6 (X:Cx) (pins:A1) (H:Hp) (b:Addr):Prop :=
 H b=none/\b≠X.env.locals/\b∉X.fs/\(b∈X.ex\/X.s₀.heap.objs.size<=b)/\(∀x c,X.env.cells.lookup x=some c->c≠b)/\∀p∈X.pn++pins,p.1≠b
theorem Inv.fpOk {pins:A1} {U:St} (I:Inv X pins U H s) (hb:s.heap.objs.size<=b) (hn:H' b=none):d6 X pins H' b:=by
 refine⟨hn,X0 (QR I.lt hb),I.nofs hb,.inr (QK I.sz hb),λx c e z=>?_,λp hp z=>?_⟩
 ·obtain⟨v,q⟩:=I.cell x c e;exact absurd (QR q.lt (by rw[z];exact hb)) (X6 _)
 exact absurd (QR (Qo (I.pin p hp).1) (by rw[z];exact hb)) (X6 _)
structure Turn (P:Program) (w:World) (K:PySem.W.Frag) (tg:Expr) (J:It) (fp:A3) (it:Addr) (tn:Nat->Heap->Prop):Prop where
 mem:it∈fp
 obj:∀i h,tn i h->∀b∈fp,∃o,h.get? b=some o/\∀v,o.data≠.cell v
 keep:∀i h h',tn i h->(∀b∈fp,∀o,h.get? b=some o->h'.get? b=some o)->tn i h'
 item:∀(X:Cx),X.prog=P->X.w=w->X.K=K->X.calm=true->∀(i:Nat) (pins:A1) (s:Shared) (U:St) (H:Hp) (E:A0),Inv X pins U H s->(∀b∈fp,d6 X pins H b)->tn i s.heap->J.go i H ->
  wpAny (model P w) X.A (pyNext (.ref it)) (λr s1=>∃u,r=some u /\
   wpAny (model P w) X.A (letOwnedTupleGo tg (.ref it) u) (λ_ s2=>∃x H',Inv X pins U H' s2/\aU x u/\J.yld i H x H'/\tn (i+1) s2.heap/\∀b∈fp,H' b=none) E s1) E s
 done:∀(X:Cx),X.prog=P->X.w=w->X.K=K->X.calm=true->∀(i:Nat) (pins:A1) (s:Shared) (U:St) (H:Hp) (E:A0),Inv X pins U H s->(∀b∈fp,d6 X pins H b)->tn i s.heap->J.stop i H ->
  wpAny (model P w) X.A (pyNext (.ref it)) (λr s1=>r=none/\Inv X pins U H s1) E s
 self:∀(A:Around) (i:Nat) (s:Shared) (Q:A0) (E:A0),tn i s.heap->Q (.ref it) s->wpAny (model P w) A (pyIter (.ref it)) Q E s
abbrev TI:=St->Hp->(It->Hp->Prop)->Prop
def PIE (X:Cx) (pins:A1) (U:St) (tg:Expr) (R:It->Hp->Prop) (itv:Value) (s2:Shared):Prop :=
 ∃(it:Addr) (fp:A3) (tn:Nat->Heap->Prop) (J:It) (H':Hp),itv=.ref it/\Inv X pins U H' s2/\Turn X.prog X.w X.K tg J fp it tn/\tn 0 s2.heap/\(∀b∈fp,d6 X pins H' b)/\R J H'
def PI (X:Cx) (tg iter:Expr) (wi:TI):Prop :=
 ∀(pins:A1) (s:Shared) (U:St) (H:Hp) (R:It->Hp->Prop),Inv X pins U H s->wi U H R ->
  wpAny (model X.prog X.w) X.A (eval iter X.env) (λv s1=>wpAny (model X.prog X.w) X.A (pyIter v) (PIE X pins U tg R) X.xe s1) X.xe s
variable {tg:Expr}
theorem pq {M:Model} {s:Shared} {o:Obj} {n:String} {vs:Array Value} {Q:Unit->Shared->Prop} (ho:s.heap.get? it=some o) (hc:o.cls=.type n) (hd:o.data=.fields vs)
  (hn:["enumerate", "zip", "dict_itemiterator", "dict_reverseitemiterator", "odict_iterator", "itertools.zip_longest", "itertools.pairwise"].contains n=false) (hQ:Q () s):wpAny M A (letOwnedTupleGo tg (.ref it) u) Q E s:=by
 unfold letOwnedTupleGo
 cases tg <;> first
  | exact Qe hQ
  | (cases u <;> first
    | exact Qe hQ
    |(refine Qa (wpAny_load ho ?_)
      rw[hc,hd];show wpAny M A (if (["enumerate", "zip", "dict_itemiterator", "dict_reverseitemiterator", "odict_iterator", "itertools.zip_longest", "itertools.pairwise"].contains n&&vs[0]?==some (rawInt _))=true then _ else _) Q E s;rw[Qq (by intro h;rw[hn,Bool.false_and]at h;cases h)]
      exact Qe hQ))
def Itl (K:PySem.W.Frag) (a:Addr):It :=
 ⟨λi H=>∃xs x,SqL K H a xs/\xs[i]?=some x,λi H x H'=>H'=H/\∀xs,SqL K H a xs->xs[i]?=some x,λi H=>∃xs,SqL K H a xs/\xs.length<=i⟩
def Itt (K:PySem.W.Frag) (a:Addr):It :=
 ⟨λi H=>∃xs x,SqT K H a xs/\xs[i]?=some x,λi H x H'=>H'=H/\∀xs,SqT K H a xs->xs[i]?=some x,λi H=>∃xs,SqT K H a xs/\xs.length<=i⟩
def Itr (lo:Int) (n:Nat):It:=⟨λi _=>i<n,λi H x H'=>H'=H/\x=.int (lo+i),λi _=>n<=i⟩
theorem turn_list {P:Program} {w:World} {K:PySem.W.Frag} (a it:Addr):Turn P w K tg (Itl K a) [it] it (λi h=>h.IsListIter it a i) where
 mem:=by simp
 obj:=λi h st b hb=>by
  have e:b=it:=by simpa using hb
  subst e;obtain⟨o,e,c,d⟩:=st;exact⟨o,e,λv z=>by rw[d]at z;cases z⟩
 keep:=λi h h' st k=>st.at λo e=>k it (by simp) o e
 item:=by
  intro X hP hw hK hc i pins s U H E I hf st hg;subst hP hw hK;obtain⟨xs,x,hq,hx⟩:=hg;obtain⟨its,rv,p,hz⟩:=I.list hq;obtain⟨u,hu,ru⟩:=rv.get hx;obtain⟨f0,f1,f2,f3,f4,f5⟩:=hf it (by simp);refine wpAny_pyNext_list_item st p.isList (x:=u) (by simpa using hu) λh' st' sb=>?_;have I1:Inv X pins U H { s with heap:=h' }:=I.turned (t':=s.toks) (λb o hb e=>(sb.2 b hb).trans e) f0 f1 f3 f4 f5;obtain⟨o,e,c,d⟩:=id st';exact⟨u,rfl,pq (s:={ s with heap:=h' }) e c d (by decide) ⟨x,H,I1,ru,⟨rfl,λys hy=>by rw[I.list_inj hy hq];exact hx⟩,st',λb hb=>(hf b hb).1⟩⟩
 done:=by
  intro X hP hw hK hc i pins s U H E I hf st hg;subst hP hw hK;obtain⟨xs,hq,hx⟩:=hg;obtain⟨its,rv,p,hz⟩:=I.list hq;obtain⟨f0,f1,f2,f3,f4,f5⟩:=hf it (by simp);have hl:=rv.length;exact wpAny_pyNext_list_end (I.ok.hd hc) st p.isList (by simp;omega) λh' eb=>⟨rfl,I.turned (t':=s.toks) (λb o hb e=>eb b o hb e) f0 f1 f3 f4 f5⟩
 self:=λ_ _ _ _ _ st h=>wpAny_pyIter_listiter st h
theorem mG {P:Program} {w:World} {K:PySem.W.Frag} (a it:Addr):Turn P w K tg (Itt K a) [it] it (λi h=>h.IsTupleIter it a i) where
 mem:=by simp
 obj:=λi h st b hb=>by
  have e:b=it:=by simpa using hb
  subst e;obtain⟨o,e,c,d⟩:=st;exact⟨o,e,λv z=>by rw[d]at z;cases z⟩
 keep:=λi h h' st k=>st.at λo e=>k it (by simp) o e
 item:=by
  intro X hP hw hK hc i pins s U H E I hf st hg;subst hP hw hK;obtain⟨xs,x,hq,hx⟩:=hg;obtain⟨its,rv,p,hz⟩:=I.tuple hq;obtain⟨u,hu,ru⟩:=rv.get hx;obtain⟨f0,f1,f2,f3,f4,f5⟩:=hf it (by simp);refine wpAny_pyNext_tuple_item st (show s.heap.IsTuple a its.toArray from p) (x:=u) (by simpa using hu) λh' st' sb=>?_;have I1:Inv X pins U H { s with heap:=h' }:=I.turned (t':=s.toks) (λb o hb e=>(sb.2 b hb).trans e) f0 f1 f3 f4 f5;obtain⟨o,e,c,d⟩:=id st';exact⟨u,rfl,pq (s:={ s with heap:=h' }) e c d (by decide) ⟨x,H,I1,ru,⟨rfl,λys hy=>by rw[I.tuple_inj hy hq];exact hx⟩,st',λb hb=>(hf b hb).1⟩⟩
 done:=by
  intro X hP hw hK hc i pins s U H E I hf st hg;subst hP hw hK;obtain⟨xs,hq,hx⟩:=hg;obtain⟨its,rv,p,hz⟩:=I.tuple hq;obtain⟨f0,f1,f2,f3,f4,f5⟩:=hf it (by simp);have hl:=rv.length;exact wpAny_pyNext_tuple_end (I.ok.hd hc) st (show s.heap.IsTuple a its.toArray from p) (by simp;omega) λh' eb=>⟨rfl,I.turned (t':=s.toks) (λb o hb e=>eb b o hb e) f0 f1 f3 f4 f5⟩
 self:=λ_ _ _ _ _ st h=>wpAny_pyIter_tupleiter st h
theorem mH {P:Program} {w:World} {K:PySem.W.Frag} (it:Addr) (lo:Int) (n:Nat):Turn P w K tg (Itr lo n) [it] it (λi h=>IsRangeIter h it (lo+(i:Nat)*1) ((n:Int)-(i:Nat)) 1) where
 mem:=by simp
 obj:=λi h st b hb=>by
  have e:b=it:=by simpa using hb
  subst e
  exact⟨_,st,λv z=>by
   have z':Data.fields _=Data.cell v:=z
   cases z'⟩
 keep:=λi h h' st k=>k it (by simp) _ st
 item:=by
  intro X hP hw hK hc i pins s U H E I hf st hg;subst hP hw hK;obtain⟨f0,f1,f2,f3,f4,f5⟩:=hf it (by simp);have W:=Walks.range (prog:=X.prog) (w:=X.w) (I.ok.hd hc) it lo 1 n;refine W.item i s _ _ hg st λv h' tk hv st' kk=>?_;obtain⟨t,rfl⟩:=hv;have I1:Inv X pins U H { s with heap:=h',toks:=tk }:=I.turned (λb o hb e=>kk b o (by simpa using hb) e) f0 f1 f3 f4 f5;refine⟨_,rfl,pq (s:={ s with heap:=h',toks:=tk }) (n := "range_iterator") st' rfl rfl (by decide) ⟨.int (lo+i),H,I1,⟨t,?_⟩,⟨rfl,rfl⟩,st',λb hb=>(hf b hb).1⟩⟩;rw[Int.mul_one]
 done:=by
  intro X hP hw hK hc i pins s U H E I hf st hg;subst hP hw hK;obtain⟨f0,f1,f2,f3,f4,f5⟩:=hf it (by simp);exact wpAny_pyNext_range_end (I.ok.hd hc) st (by have:n<=i:=hg;omega) λh' eb=>⟨rfl,I.turned (t':=s.toks) (λb o hb e=>eb b o hb e) f0 f1 f3 f4 f5⟩
 self:=λ_ _ _ _ _ st h=>wpAny_pyIter_rangeiter st h
section
variable {X:Cx} {tg:Expr}
def ig (K:PySem.W.Frag) (tl:TE):TI:=λU H R=>tl U H λx H1=>∃a,x=.ref a/\(∃xs,SqL K H1 a xs)/\R (Itl K a) H1
def yn (K:PySem.W.Frag) (tl:TE):TI:=λU H R=>tl U H λx H1=>∃a,x=.ref a/\(∃xs,SqT K H1 a xs)/\R (Itt K a) H1
theorem aZ {l:Expr} {tl:TE} (hl:PE X l tl):PI X tg l (ig X.K tl):=by
 intro pins s U H R I h;refine thn (hl pins s U H _ I h) λv s1 ⟨x,H1,I1,r1,q1⟩=>?_;obtain⟨a,e,⟨xs,hq⟩,q⟩:=q1;subst e;cases r1;obtain⟨its,rv,p,hz⟩:=I1.list hq;refine wpAny_pyIter_list p.isList ?_;refine⟨s1.heap.objs.size,[s1.heap.objs.size],_,_,H1,rfl,I1.kept (t':=s1.toks) λb o e=>Qb _ e,turn_list a _,⟨_,Qn _ rfl,rfl,rfl⟩,λb hb=>?_,q⟩;have e:b=s1.heap.objs.size:=by simpa using hb
 subst e;exact I1.fpOk (Qj _) (I1.hok.fresh (Qj _))
theorem wM {l:Expr} {tl:TE} (hl:PE X l tl):PI X tg l (yn X.K tl):=by
 intro pins s U H R I h;refine thn (hl pins s U H _ I h) λv s1 ⟨x,H1,I1,r1,q1⟩=>?_;obtain⟨a,e,⟨xs,hq⟩,q⟩:=q1;subst e;cases r1;obtain⟨its,rv,p,hz⟩:=I1.tuple hq;refine wpAny_pyIter_tuple (show s1.heap.IsTuple a its.toArray from p) ?_;refine⟨s1.heap.objs.size,[s1.heap.objs.size],_,_,H1,rfl,I1.kept (t':=s1.toks) λb o e=>Qb _ e,mG a _,⟨_,Qn _ rfl,rfl,rfl⟩,λb hb=>?_,q⟩;have e:b=s1.heap.objs.size:=by simpa using hb
 subst e;exact I1.fpOk (Qj _) (I1.hok.fresh (Qj _))
variable {s:Shared} {pins pl:A1}
theorem rR {U:St} {H:Hp} {R:It->Hp->Prop} {E:A0} {lo hi:Int} {t u v:Tok} {tk:Nat} (I:Inv X pins U H s) (h1:-(2 ^ 62)<=lo) (h2:lo<2 ^ 62) (h3:-(2 ^ 62)<=hi) (h4:hi<2 ^ 62)
  (q:R (Itr lo (hi-lo).toNat) H):wpAny (model X.prog X.w) X.A (pyIter (.ref s.heap.objs.size)) (PIE X pins U tg R) E { s with heap:=s.heap.push { cls:=.type "range", data:=.fields #[.int lo t,.int hi u,.int 1 v] },toks:=tk }:=by
 refine wpAny_pyIter_range (IsRange.new ..) (small_one h1 h2 h3 h4) ?_;have I1:Inv X pins U H { s with heap:=s.heap.push { cls:=.type "range", data:=.fields #[.int lo t,.int hi u,.int 1 v] },toks:=tk }:=I.kept λb o e=>Qb _ e
 refine⟨(s.heap.push { cls:=.type "range", data:=.fields #[.int lo t,.int hi u,.int 1 v] }).objs.size,[(s.heap.push { cls:=.type "range", data:=.fields #[.int lo t,.int hi u,.int 1 v] }).objs.size],_,_,H,rfl,
  I1.kept (t':=tk) λb o e=>Qb _ e,mH _ lo (hi-lo).toNat,?_,λb hb=>?_,q⟩
 ·have e1:lo+((0:Nat):Int)*1=lo:=by simp
  have e2:(((hi-lo).toNat:Nat):Int)-((0:Nat):Int)=Builtin.Range.rangeSize lo hi 1:=by rw[rangeSize_one];split <;> omega
  show IsRangeIter _ _ (lo+((0:Nat):Int)*1) ((((hi-lo).toNat:Nat):Int)-((0:Nat):Int)) 1;rw[e1,e2];exact Qn _ rfl
 have e:b=(s.heap.push { cls:=.type "range", data:=.fields #[.int lo t,.int hi u,.int 1 v] }).objs.size:=by simpa using hb
 subst e;exact I1.fpOk (Qj _) (I1.hok.fresh (Qj _))
def v0 (ta:TA):TI:=λU H R=>ta U H λvs H1=>∃j:Int,vs=[.int j]/\-(2 ^ 62)<=j/\j<2 ^ 62/\R (Itr 0 j.toNat) H1
theorem d_ {a:Expr} {ta:TA} {p pos:Pos} (hg:Gl X "range") (hm:X.mg "range" = none) (ha:PA X [a] ta) (hs:starEach [a] X.env=[(false,eval a X.env)]:=by rfl):PI X tg (.Call (.Name "range" p) [a] [] pos) (v0 ta):=by
 intro pins s U H R I h;refine Call_ (cr I hg hm boot_range (Q9 (thn (ha pos pins s U H _ I h) λus s1 ⟨vs,H1,I1,r1,q1⟩=>?_) hs rfl));obtain⟨j,e,q1,q2,q⟩:=q1;subst e
 cases r1 with
 | cons r rr =>
 cases rr;obtain⟨t,rfl⟩:=r;exact call_range_1 (rR I1 (by omega) (by omega) q1 q2 (by simpa using q))
def xL (wi:TI) (g:TG) (tb:TS):TS:=λD U H=>wi U H λJ H1=>∃W:Nat->Nat->St->Hp->Prop,(∃m,W 0 m U H1)/\∀i m U H,W i m U H ->
 (J.stop i H/\D.nx U H)\/(J.go i H/\∃N:St->Hp->Prop,(∀σ' H',N σ' H'->∃m',m'<m/\W (i+1) m' σ' H')/\∀x H',J.yld i H x H'->g x U H' λσ2 H2=>tb { D with nx:=N,ct:=N,bk:=D.nx } σ2 H2)
def fH (fp:A3) (h:Heap):A1:=fp.filterMap λb=>(h.get? b).map λo=>(b,o)
variable {fp:A3}
theorem cB {h:Heap} {b:Addr} {o:Obj} (hb:b∈fp) (e:h.get? b=some o):(b,o)∈fH fp h:=List.mem_filterMap.mpr ⟨b,hb,by rw[e];rfl⟩
theorem qu {h:Heap} {p:Addr × Obj} (hp:p∈fH fp h):p.1∈fp/\h.get? p.1=some p.2:=by
 obtain⟨b,hb,e⟩:=List.mem_filterMap.mp hp
 cases q:h.get? b with
 | none=>rw[q]at e;cases e
 | some o =>
 rw[q]at e;have e':(b,o)=p:=QH e;subst e';exact⟨hb,q⟩
theorem Inv.pinned {U:St} {H:Hp} (I:Inv X pins U H s) (hf:∀b∈fp,d6 X pins H b) (ho:∀b∈fp,∃o,s.heap.get? b=some o/\∀v,o.data≠.cell v):Inv X (pins++fH fp s.heap) U H s :=
 I.pins_of λp hp=>(Qw.mp hp).elim (λz=>I.pin p (QC _ z)) λz=>by
  obtain⟨hb,e⟩:=qu z;obtain⟨f0,f1,f2,_⟩:=hf p.1 hb;obtain⟨o,e',d⟩:=ho p.1 hb;rw[e]at e';cases e';exact⟨e,f0,f1,f2,d⟩
theorem Inv.unpinned {U:St} {H:Hp} (I:Inv X (pins++pl) U H s):Inv X pins U H s:=I.pins_of λp hp=>I.pin p (QC _ (Q1 _ hp))
theorem ps_for {iter:Expr} {body:List Stmt} {wi:TI} {g:TG} {tb:TS} {pos:Pos} (hp:PassesOwn (model X.prog X.w) X.A X.env X.xe) (hc:X.calm=true) (hi:PI X tg iter wi) (hg:PG X tg g) (hb:PSs X body tb)
  (hs:∀x,foldedSetIterable iter X.env x=pure x:=by intro _;rfl):PS X (.For tg iter body [] pos) (xL wi g tb):=by
 intro pins s U H D I h;refine wpAny_For (thn (hi pins s U H _ I h) λv s1 h1=>thn h1 λitv s2 h2=>?_) hs;obtain⟨it,fp,tn,J,H2,e,I2,T,st2,f2,W,⟨m0,w0⟩,turn⟩:=h2;subst e
 -- what stays true of the iterator's objects through the loop
 have stat:∀{H':Hp},(∀b∈fp,H' b=none)->∀b∈fp,d6 X pins H' b:=λhn b hb=>⟨hn b hb,(f2 b hb).2⟩;refine codeAny_forLoop_any (λn s'=>∃i σ' H',Inv X pins σ' H' s'/\tn i s'.heap/\(∀b∈fp,H' b=none)/\W i n σ' H') ?_ m0 ⟨0,U,H2,I2,st2,λb hb=>(f2 b hb).1,w0⟩;rintro n s3 ⟨i,σ3,H3,I3,st3,fr3,w3⟩;rcases turn i n σ3 H3 w3 with⟨stop,qn⟩|⟨go,N,hN,step⟩
 ·refine wpAny_passesOwn hp (thn (T.done X rfl rfl rfl hc i pins s3 σ3 H3 X.xe I3 (stat fr3) st3 stop) λr s4 ⟨hr,I4⟩=>?_);subst hr;exact wpAny_execs_nil ⟨σ3,H3,I4,qn⟩
 refine wpAny_passesOwn hp (thn (T.item X rfl rfl rfl hc i pins s3 σ3 H3 X.xe I3 (stat fr3) st3 go) λr s4 ⟨u,hr,h4⟩=>?_);subst hr;refine wpAny_passesOwn hp (thn h4 λ_ s5 ⟨x,H5,I5,r5,y5,st5,fr5⟩=>?_);have I5':=I5.pinned (stat fr5) (T.obj _ _ st5);refine wpAny_passesOwn hp (thn (hg _ s5 σ3 H5 x u _ I5' r5 (step x H5 y5)) λ_ s6 ⟨σ6,H6,I6,q6⟩=>?_);refine wpAny_passesOwn hp (thn (hb _ s6 σ6 H6 _ I6 q6) λf s7 q7=>?_)
 have again:∀{σ7:St} {H7:Hp},Inv X (pins++fH fp s5.heap) σ7 H7 s7->N σ7 H7->∃m,m<n/\∃i σ' H',Inv X pins σ' H' s7/\tn i s7.heap/\(∀b∈fp,H' b=none)/\W i m σ' H':=λ{σ7 H7} I7 n7=>by
  obtain⟨m',hm,w7⟩:=hN σ7 H7 n7;refine⟨m',hm,i+1,σ7,H7,I7.unpinned,T.keep _ _ _ st5 λb hb o e=>(I7.pin (b,o) (QC _ (QC _ (cB hb e)))).1,λb hb=>?_,w7⟩;obtain⟨o,e,d⟩:=T.obj _ _ st5 b hb;exact(I7.pin (b,o) (QC _ (QC _ (cB hb e)))).2.1
 cases f with
 | next=>obtain⟨σ7,H7,I7,n7⟩:=q7;exact again I7 n7
 | cont=>obtain⟨σ7,H7,I7,n7⟩:=q7;exact again I7 n7
 | brk=>obtain⟨σ7,H7,I7,q7⟩:=q7;exact⟨σ7,H7,I7.unpinned,q7⟩
 | ret v=>obtain⟨x7,σ7,H7,I7,r7,q7⟩:=q7;exact⟨x7,σ7,H7,I7.unpinned,r7,q7⟩
end
theorem dy {K:PySem.W.Frag} {xs:List V} {g:TG} {tb:TS} {D:Ends} {U:St} (Pv:Nat->St->Hp->Prop) (h0:Pv 0 U H) (hl:∀i U H,i<=xs.length->Pv i U H->SqL K H a xs)
  (hs:∀i x U H,xs[i]?=some x->Pv i U H->g x U H λσ2 H2=>tb { D with nx:=Pv (i+1),ct:=Pv (i+1),bk:=D.nx } σ2 H2) (hd:∀U H,Pv xs.length U H->D.nx U H) :
  ∃W:Nat->Nat->St->Hp->Prop,(∃m,W 0 m U H)/\∀i m U H,W i m U H ->
   ((Itl K a).stop i H/\D.nx U H)\/((Itl K a).go i H/\∃N:St->Hp->Prop,(∀σ' H',N σ' H'->∃m',m'<m/\W (i+1) m' σ' H')/\∀x H',(Itl K a).yld i H x H'->g x U H' λσ2 H2=>tb { D with nx:=N,ct:=N,bk:=D.nx } σ2 H2):=by
 refine⟨λi m U H=>m=xs.length-i/\i<=xs.length/\Pv i U H,⟨xs.length,by simp,QU _,h0⟩,?_⟩;rintro i m U H ⟨rfl,hi,p⟩;have q:=hl i U H hi p;by_cases hlt:i<xs.length
 ·refine .inr ⟨⟨xs,xs[i],q,by simp[hlt]⟩,Pv (i+1),λσ' H' p'=>⟨xs.length-(i+1),by omega,rfl,hlt,p'⟩,λx H' y=>?_⟩;obtain⟨e,y⟩:=y;subst e;exact hs i x U _ (y xs q) p
 have e:i=xs.length:=by omega
 subst e;exact .inl ⟨⟨xs,q,Qj _⟩,hd U H p⟩
theorem fQ {lo:Int} {n:Nat} {g:TG} {tb:TS} {D:Ends} {U:St} (Pv:Nat->St->Hp->Prop) (h0:Pv 0 U H)
  (hs:∀i U H,i<n->Pv i U H->g (.int (lo+i)) U H λσ2 H2=>tb { D with nx:=Pv (i+1),ct:=Pv (i+1),bk:=D.nx } σ2 H2) (hd:∀U H,Pv n U H->D.nx U H) :
  ∃W:Nat->Nat->St->Hp->Prop,(∃m,W 0 m U H)/\∀i m U H,W i m U H ->
   ((Itr lo n).stop i H/\D.nx U H)\/((Itr lo n).go i H/\∃N:St->Hp->Prop,(∀σ' H',N σ' H'->∃m',m'<m/\W (i+1) m' σ' H')/\∀x H',(Itr lo n).yld i H x H'->g x U H' λσ2 H2=>tb { D with nx:=N,ct:=N,bk:=D.nx } σ2 H2):=by
 refine⟨λi m U H=>m=n-i/\i<=n/\Pv i U H,⟨n,by simp,QU _,h0⟩,?_⟩;rintro i m U H ⟨rfl,hi,p⟩;by_cases hlt:i<n
 ·refine .inr ⟨hlt,Pv (i+1),λσ' H' p'=>⟨n-(i+1),by omega,rfl,hlt,p'⟩,λx H' y=>?_⟩;obtain⟨e,y⟩:=y;subst e y;exact hs i U _ hlt p
 have e:i=n:=by omega
 subst e;exact .inl ⟨Qj _,hd U H p⟩
abbrev R2:=V->V->Hp->VK->Prop
def OpR (X:Cx) (f:Value->Value->Sem Value) (r:R2):Prop :=
 ∀(pins:A1) (s:Shared) (U:St) (H:Hp) (x y:V) (v u:Value) (Q:VK),Inv X pins U H s->aU x v->aU y u->r x y H Q ->
  wpAny (model X.prog X.w) X.A (f v u) (EP X pins U Q) X.xe s
def UnR (X:Cx) (f:Value->Sem Value) (r:V->Hp->VK->Prop):Prop :=
 ∀(pins:A1) (s:Shared) (U:St) (H:Hp) (x:V) (v:Value) (Q:VK),Inv X pins U H s->aU x v->r x H Q ->
  wpAny (model X.prog X.w) X.A (f v) (EP X pins U Q) X.xe s
def cM (X:Cx) (f:Value) (r:List V->Hp->VK->Prop):Prop :=
 ∀(pins:A1) (s:Shared) (U:St) (H:Hp) (xs:List V) (us:List Value) (Q:VK),Inv X pins U H s->aO xs us->r xs H Q ->
  wpAny (model X.prog X.w) X.A (call f us) (EP X pins U Q) X.xe s
def tOp (r:R2) (ta tb:TE):TE:=λU H Q=>ta U H λx H1=>tb U H1 λy H2=>r x y H2 Q
def tUn (r:V->Hp->VK->Prop) (ta:TE):TE:=λU H Q=>ta U H λx H1=>r x H1 Q
def rI (C:Int->Int->Prop) (g:Int->Int->V):R2:=λx y H Q=>∃i j,x=.int i/\y=.int j/\C i j/\Q (g i j) H
def rI0 (g:Int->Int->V):R2:=λx y H Q=>∃i j,x=.int i/\y=.int j/\Q (g i j) H
def rU (g:Int->V):V->Hp->VK->Prop:=λx H Q=>∃i,x=.int i/\Q (g i) H
section
variable {X:Cx} {a b c:Expr} {ta tb tc:TE} {pos:Pos}
variable {f:Value->Value->Sem Value}
theorem xy (ha:PE X a ta) (hb:PE X b tb) {pins:A1} {s:Shared} {U:St} {H:Hp} {R:V->V->Hp->Prop} (I:Inv X pins U H s)
  (h:ta U H λx H1=>tb U H1 λy H2=>R x y H2) {Q:A0}
  (hf:∀v u s2 x y H2,Inv X pins U H2 s2->aU x v->aU y u->R x y H2->wpAny (model X.prog X.w) X.A (f v u) Q X.xe s2) :
  wpAny (model X.prog X.w) X.A (eval a X.env) (λv s₁=>wpAny (model X.prog X.w) X.A (eval b X.env) (λu s₂=>wpAny (model X.prog X.w) X.A (f v u) Q X.xe s₂) X.xe s₁) X.xe s:=by
 refine thn (ha pins s U H _ I h) λv s1 ⟨x,H1,I1,r1,q1⟩=>?_;refine thn (hb pins s1 U H1 _ I1 q1) λu s2 ⟨y,H2,I2,r2,q2⟩=>?_;exact hf v u s2 x y H2 I2 r1 r2 q2
theorem aM {op:Operator} {r:R2} (ho:OpR X (binaryOp op) r) (ha:PE X a ta) (hb:PE X b tb):PE X (.BinOp a op b pos) (tOp r ta tb):=by
 intro pins s U H Q I h;exact wpAny_BinOp (xy ha hb I h λv u s2 x y H2 I2 rx ry q=>ho pins s2 U H2 x y v u Q I2 rx ry q)
theorem r_ {op:UnaryOp} {r:V->Hp->VK->Prop} (ho:UnR X (unaryOp op) r) (ha:PE X a ta):PE X (.UnaryOp op a pos) (tUn r ta):=by
 intro pins s U H Q I h;exact UnaryOp_ (thn (ha pins s U H _ I h) λv s1 ⟨x,H1,I1,r1,q1⟩=>ho pins s1 U H1 x v Q I1 r1 q1)
theorem opI {C:Int->Int->Prop} {g:Int->Int->Int}
  (rule:∀(i j:Int) (t u:Tok) (s:Shared) (Q:A0) (E:A0),C i j->Q (.int (g i j) s.toks) { s with toks:=s.toks+1 }->wpAny (model X.prog X.w) X.A (f (.int i t) (.int j u)) Q E s) :
  OpR X f (rI C λi j=>.int (g i j)):=by
 intro pins s U H x y v u Q I rx ry h;obtain⟨i,j,rfl,rfl,hc,q⟩:=h;obtain⟨t,rfl⟩:=rx;obtain⟨t',rfl⟩:=ry;exact rule i j t t' s _ _ hc ⟨.int (g i j),H,I.tok _,⟨_,rfl⟩,q⟩
theorem xW {g:Int->Int->Int}
  (rule:∀(i j:Int) (t u:Tok) (s:Shared) (Q:A0) (E:A0),Q (.int (g i j) s.toks) { s with toks:=s.toks+1 }->wpAny (model X.prog X.w) X.A (f (.int i t) (.int j u)) Q E s) :
  OpR X f (rI0 λi j=>.int (g i j)):=by
 intro pins s U H x y v u Q I rx ry h;obtain⟨i,j,rfl,rfl,q⟩:=h;obtain⟨t,rfl⟩:=rx;obtain⟨t',rfl⟩:=ry;exact rule i j t t' s _ _ ⟨.int (g i j),H,I.tok _,⟨_,rfl⟩,q⟩
theorem uC {g:Int->Int->Bool}
  (rule:∀(i j:Int) (t u:Tok) (s:Shared) (Q:A0) (E:A0),Q (.bool (g i j)) s->wpAny (model X.prog X.w) X.A (f (.int i t) (.int j u)) Q E s) :
  OpR X f (rI0 λi j=>.bl (g i j)):=by
 intro pins s U H x y v u Q I rx ry h;obtain⟨i,j,rfl,rfl,q⟩:=h;obtain⟨t,rfl⟩:=rx;obtain⟨t',rfl⟩:=ry;exact rule i j t t' s _ _ ⟨.bl (g i j),H,I,rfl,q⟩
def yU (i j:Int):Prop:=0<j/\j<1073741824
def yT (i j:Int):Prop:=0<=j/\j<=1000000/\i.natAbs<2 ^ 64
def xF (i j:Int):Prop:=(-(2 ^ 64)<i/\i<2 ^ 64)\/(-(2 ^ 64)<j/\j<2 ^ 64)
theorem xF.ok {i j:Int} (h:xF i j):IntMulOk i j:=by
 rcases h with⟨h1,h2⟩|⟨h1,h2⟩
 ·exact .of_left (intBits_le_64 h1 h2)
 exact .of_right (intBits_le_64 h1 h2)
theorem cA:OpR X (binaryOp .Add) (rI0 λi j=>.int (i+j)):=xW λ_ _ _ _ _ _ _ q=>add_int q
theorem gT:OpR X (binaryOp .Sub) (rI0 λi j=>.int (i-j)):=xW λ_ _ _ _ _ _ _ q=>sub_int q
theorem dE:OpR X (binaryOp .Mult) (rI xF λi j=>.int (i*j)):=opI λ_ _ _ _ _ _ _ hc q=>mul_int q hc.ok
theorem oR:OpR X (binaryOp .FloorDiv) (rI yU λi j=>.int (i / j)):=opI λi j _ _ _ _ _ hc q=>by
 have h1:(0:Int)<j:=hc.1;have h2:j<1073741824:=hc.2;exact floordiv_int (by omega) (by rw[Int.fdiv_eq_ediv_of_nonneg i (by omega)];exact q) (.inl (PyProof.noPylong_small (by omega)))
theorem fI:OpR X (binaryOp .Mod) (rI (λ_ j=>0<j) λi j=>.int (i % j)):=opI λi j _ _ _ _ _ hc q=>by
 have h1:(0:Int)<j:=hc;exact mod_int' (by omega) (by rw[Int.fmod_eq_emod_of_nonneg i (by omega)];exact q)
theorem sy:OpR X (binaryOp .Pow) (rI yT λi j=>.int (i ^ j.toNat)):=opI λ_ _ _ _ _ _ _ hc q=>pow_int_small hc.1 hc.2.1 hc.2.2 q
theorem unI {f:Value->Sem Value} {g:Int->Int}
  (rule:∀(i:Int) (t:Tok) (s:Shared) (Q:A0) (E:A0),Q (.int (g i) s.toks) { s with toks:=s.toks+1 }->wpAny (model X.prog X.w) X.A (f (.int i t)) Q E s) :
  UnR X f (rU λi=>.int (g i)):=by
 intro pins s U H x v Q I rx h;obtain⟨i,rfl,q⟩:=h;obtain⟨t,rfl⟩:=rx;exact rule i t s _ _ ⟨.int (g i),H,I.tok _,⟨_,rfl⟩,q⟩
theorem mF:UnR X (unaryOp .USub) (rU λi=>.int (-i)):=unI λ_ _ _ _ _ q=>neg_int q
end
noncomputable def uq:V->V->Bool
 | .non,.non=>true|.non,.int _=>true|.int _,.non=>true|.non,.bl _=>true|.bl _,.non=>true|.non,.str _=>true|.str _,.non=>true
 | .int _,.int _=>true|.bl _,.bl _=>true|.str _,.str _=>true|.byt _,.byt _=>true
 | .int _,.str _=>true|.str _,.int _=>true|.bl _,.str _=>true|.str _,.bl _=>true
 | _,_=>false
def rEq:R2:=λx y H Q=>uq x y=true/\Q (.bl (decide (x=y))) H
def rNe:R2:=λx y H Q=>uq x y=true/\Q (.bl (!decide (x=y))) H
theorem pJ {i j:Int}:decide (V.int i=V.int j)=(i==j):=by
 rw[XS];simp
theorem tT {i j:Bool}:decide (V.bl i=V.bl j)=(i==j):=by
 rw[XS];simp
theorem pI {i j:Str}:decide (V.str i=V.str j)=(i==j):=by
 rw[XS];simp
theorem pK {i j:Array UInt8}:decide (V.byt i=V.byt j)=(i.toList==j.toList):=by
 rw[XS];cases i;cases j;simp
section
variable {X:Cx} {a b c:Expr} {ta tb tc:TE} {pos:Pos}
theorem aW {pins:A1} {U:St} {H:Hp} {s:Shared} {Q:VK} {k k':Bool} (I:Inv X pins U H s) (q:Q (.bl k) H) (e:k=k'):EP X pins U Q (.bool k') s:=by
 subst e;exact⟨.bl k,H,I,rfl,q⟩
theorem cJ:OpR X (compareOp .Eq) rEq:=by
 intro pins s U H x y v u Q I rx ry h;obtain⟨hs,q⟩:=h
 cases x with
 | non =>
  cases rx
  cases y with
  | non=>cases ry;exact PySem.EqNone.eq_none_none (aW I q (by simp))
  | bl j=>cases ry;exact PySem.EqNone.eq_none_bool (aW I q (by simp))
  | int j=>obtain⟨t',rfl⟩:=ry;exact PySem.EqNone.eq_none_int (aW I q (by simp))
  | str j=>obtain⟨t',rfl⟩:=ry;exact PySem.EqNone.eq_none_str (aW I q (by simp))
  | _=>exact absurd (show false=true from hs) Qp
 | bl i =>
  cases rx
  cases y with
  | non=>cases ry;exact PySem.EqNone.eq_bool_none (aW I q (by simp))
  | bl j=>cases ry;exact eq_bool (aW I q tT)
  | str j=>obtain⟨t',rfl⟩:=ry;exact PySem.EqMixed.eq_bool_str (aW I q (by simp))
  | _=>exact absurd (show false=true from hs) Qp
 | int i =>
  obtain⟨t,rfl⟩:=rx
  cases y with
  | non=>cases ry;exact PySem.EqNone.eq_int_none (aW I q (by simp))
  | int j=>obtain⟨t',rfl⟩:=ry;exact eq_int (aW I q pJ)
  | str j=>obtain⟨t',rfl⟩:=ry;exact PySem.EqMixed.eq_int_str (aW I q (by simp))
  | _=>exact absurd (show false=true from hs) Qp
 | str i =>
  obtain⟨t,rfl⟩:=rx
  cases y with
  | non=>cases ry;exact PySem.EqNone.eq_str_none (aW I q (by simp))
  | bl j=>cases ry;exact PySem.EqMixed.eq_str_bool (aW I q (by simp))
  | int j=>obtain⟨t',rfl⟩:=ry;exact PySem.EqMixed.eq_str_int (aW I q (by simp))
  | str j=>obtain⟨t',rfl⟩:=ry;exact eq_str (aW I q pI)
  | _=>exact absurd (show false=true from hs) Qp
 | byt i =>
  obtain⟨t,rfl⟩:=rx
  cases y with
  | byt j=>obtain⟨t',rfl⟩:=ry;exact PySem.W.eq_bytes (aW I q pK)
  | _=>exact absurd (show false=true from hs) Qp
 | _=>cases y <;> exact absurd (show false=true from hs) Qp
theorem iX:OpR X (compareOp .NotEq) rNe:=by
 intro pins s U H x y v u Q I rx ry h;obtain⟨hs,q⟩:=h
 cases x with
 | non =>
  cases rx
  cases y with
  | non=>cases ry;exact PySem.EqNone.ne_none_none (aW I q (by simp))
  | bl j=>cases ry;exact PySem.EqNone.ne_none_bool (aW I q (by simp))
  | int j=>obtain⟨t',rfl⟩:=ry;exact PySem.EqNone.ne_none_int (aW I q (by simp))
  | str j=>obtain⟨t',rfl⟩:=ry;exact PySem.EqNone.ne_none_str (aW I q (by simp))
  | _=>exact absurd (show false=true from hs) Qp
 | bl i =>
  cases rx
  cases y with
  | non=>cases ry;exact PySem.EqNone.ne_bool_none (aW I q (by simp))
  | bl j=>cases ry;exact ne_bool (aW I q (congrArg not tT))
  | str j=>obtain⟨t',rfl⟩:=ry;exact PySem.EqMixed.ne_bool_str (aW I q (by simp))
  | _=>exact absurd (show false=true from hs) Qp
 | int i =>
  obtain⟨t,rfl⟩:=rx
  cases y with
  | non=>cases ry;exact PySem.EqNone.ne_int_none (aW I q (by simp))
  | int j=>obtain⟨t',rfl⟩:=ry;exact ne_int (aW I q (congrArg not pJ))
  | str j=>obtain⟨t',rfl⟩:=ry;exact PySem.EqMixed.ne_int_str (aW I q (by simp))
  | _=>exact absurd (show false=true from hs) Qp
 | str i =>
  obtain⟨t,rfl⟩:=rx
  cases y with
  | non=>cases ry;exact PySem.EqNone.ne_str_none (aW I q (by simp))
  | bl j=>cases ry;exact PySem.EqMixed.ne_str_bool (aW I q (by simp))
  | int j=>obtain⟨t',rfl⟩:=ry;exact PySem.EqMixed.ne_str_int (aW I q (by simp))
  | str j=>obtain⟨t',rfl⟩:=ry;exact ne_str (aW I q (congrArg not pI))
  | _=>exact absurd (show false=true from hs) Qp
 | byt i =>
  obtain⟨t,rfl⟩:=rx
  cases y with
  | byt j=>obtain⟨t',rfl⟩:=ry;exact PySem.W.ne_bytes (aW I q (congrArg not pK))
  | _=>exact absurd (show false=true from hs) Qp
 | _=>cases y <;> exact absurd (show false=true from hs) Qp
theorem oP:OpR X (compareOp .Lt) (rI0 λi j=>.bl (decide (i<j))):=uC λ_ _ _ _ _ _ _ q=>lt_int q
theorem oQ:OpR X (compareOp .LtE) (rI0 λi j=>.bl (decide (i<=j))):=uC λ_ _ _ _ _ _ _ q=>le_int q
theorem lA:OpR X (compareOp .Gt) (rI0 λi j=>.bl (decide (j<i))):=uC λ_ _ _ _ _ _ _ q=>gt_int q
theorem vT:OpR X (compareOp .GtE) (rI0 λi j=>.bl (decide (j<=i))):=uC λ_ _ _ _ _ _ _ q=>ge_int q
theorem qk:OpR X (compareOp .In) (λx y H Q=>∃i j,x=.str i/\y=.str j/\Q (.bl (!(Builtin.Str.occurrences j i 0 j.length 1).isEmpty)) H):=by
 intro pins s U H x y v u Q I rx ry h;obtain⟨i,j,rfl,rfl,q⟩:=h;obtain⟨t,rfl⟩:=rx;obtain⟨t',rfl⟩:=ry;exact in_str (aW I q rfl)
theorem uA:OpR X (compareOp .IsNot) (λx y H Q=>y=.non/\Q (.bl (!decide (x=.non))) H):=by
 intro pins s U H x y v u Q I rx ry h;obtain⟨rfl,q⟩:=h;cases ry;refine isnot_none_gen (aW I q ?_)
 cases x <;> first
  | (cases rx;rfl)
  | (obtain⟨t,rfl⟩:=rx;rfl)
variable {op op':CmpOp}
theorem aF (b:Expr) (h:op≠.In:=by decide) (h2:op≠.NotIn:=by decide):behindInMarks op b=false:=by
 have e1:(op==CmpOp.In)=false:=by cases op <;> first|rfl|exact absurd rfl h
 have e2:(op==CmpOp.NotIn)=false:=by cases op <;> first|rfl|exact absurd rfl h2
 cases b <;> simp[behindInMarks,e1,e2]
variable {r r':R2}
theorem bj (ho:OpR X (compareOp op) r) (ha:PE X a ta) (hb:PE X b tb) (hm:behindInMarks op b=false):PE X (.Compare a [op] [b] pos) (tOp r ta tb):=by
 intro pins s U H Q I h;exact wpAny_Compare1 (xy ha hb I h λv u s2 x y H2 I2 rx ry q=>ho pins s2 U H2 x y v u Q I2 rx ry q) hm
def rq (t:TE):TT:=λU H Q=>t U H λx H'=>∃k,x=.bl k/\Q k H'
theorem aG (ho:OpR X (compareOp op) r) (ha:PE X a ta) (hb:PE X b tb) (hm:behindInMarks op b=false):PT X (.Compare a [op] [b] pos) (rq (tOp r ta tb)):=by
 intro pins s U H Q I h
 refine wpAny_isTrue_Compare1 (thn (ha pins s U H _ I h) λv s1 ⟨x,H1,I1,r1,q1⟩=>thn (hb pins s1 U H1 _ I1 q1) λu s2 ⟨y,H2,I2,r2,q2⟩ =>
  thn (ho pins s2 U H2 x y v u _ I2 r1 r2 q2) λc s3 ⟨z,H3,I3,r3,k,e,q3⟩=>?_) hm
 subst e;cases r3;exact XM ⟨H3,I3,q3⟩
def mJ (r r':R2) (ta tb tc:TE):TE:=λU H Q=>ta U H λx H1=>tb U H1 λy H2=>r x y H2 λz H3=>∃k,z=.bl k /\
 (if k=true then tc U H3 λw' H4=>r' y w' H4 Q else Q (.bl false) H3)
theorem sm (ho:OpR X (compareOp op) r) (ho':OpR X (compareOp op') r') (ha:PE X a ta) (hb:PE X b tb) (hc:PE X c tc)
  (hm:lastMarks [op,op'] [b,c]=false:=by with_unfolding_all rfl):PE X (.Compare a [op,op'] [b,c] pos) (mJ r r' ta tb tc):=by
 intro pins s U H Q I h
 refine Compare_chain (thn (ha pins s U H _ I h) λv s1 ⟨x,H1,I1,r1,q1⟩=>chain_link (thn (hb pins s1 U H1 _ I1 q1) λu s2 ⟨y,H2,I2,r2,q2⟩ =>
  thn (ho pins s2 U H2 x y v u _ I2 r1 r2 q2) λd s3 ⟨z,H3,I3,r3,k,e,q3⟩=>?_)) hm
 subst e;cases r3;refine XM ?_
 cases k with
 | false=>exact ite_ff ⟨.bl false,H3,I3,rfl,q3⟩
 | true=>exact ite_tt (chain_last (thn (hc pins s3 U H3 _ I3 q3) λw' s4 ⟨z',H4,I4,r4,q4⟩=>ho' pins s4 U H4 y z' u w' Q I4 r2 r4 q4))
theorem rW (ho:OpR X (compareOp op) r) (ho':OpR X (compareOp op') r') (ha:PE X a ta) (hb:PE X b tb) (hc:PE X c tc)
  (hm:lastMarks [op,op'] [b,c]=false:=by with_unfolding_all rfl):PT X (.Compare a [op,op'] [b,c] pos) (rq (mJ r r' ta tb tc)):=by
 intro pins s U H Q I h
 refine isTrue_chain (thn (ha pins s U H _ I h) λv s1 ⟨x,H1,I1,r1,q1⟩=>test_link (thn (hb pins s1 U H1 _ I1 q1) λu s2 ⟨y,H2,I2,r2,q2⟩ =>
  thn (ho pins s2 U H2 x y v u _ I2 r1 r2 q2) λd s3 ⟨z,H3,I3,r3,k,e,q3⟩=>?_)) hm
 subst e;cases r3;refine XM ?_
 cases k with
 | false =>
  obtain⟨k',e',q'⟩:=q3;cases e';exact ite_ff ⟨H3,I3,q'⟩
 | true =>
 refine ite_tt (test_last (thn (hc pins s3 U H3 _ I3 q3) λw' s4 ⟨z',H4,I4,r4,q4⟩=>thn (ho' pins s4 U H4 y z' u w' _ I4 r2 r4 q4) λd' s5 ⟨z2,H5,I5,r5,k2,e2,q5⟩=>?_));subst e2;cases r5;exact XM ⟨H5,I5,q5⟩
theorem fL:(sizeLine:Nat)<2 ^ 63:=by rw[XY];decide
theorem bM:OpR X (binaryOp .Add) (λx y H Q=>∃i j,x=.str i/\y=.str j/\i.length+j.length<=sizeLine/\Q (.str (i++j)) H):=by
 intro pins s U H x y v u Q I rx ry h;obtain⟨i,j,rfl,rfl,hz,q⟩:=h;obtain⟨t,rfl⟩:=rx;obtain⟨t',rfl⟩:=ry;exact add_str (λt' tk=>⟨.str (i++j),H,I.tok _,⟨_,rfl⟩,q⟩) hz
theorem cT {x:V} {us:List Value} (r:aO [x] us):∃u,us=[u]/\aU x u:=by
 cases r with
 | cons r1 r2=>cases r2;exact⟨_,rfl,r1⟩
theorem kD {x y:V} {us:List Value} (r:aO [x,y] us):∃u w',us=[u,w']/\aU x u/\aU y w':=by
 cases r with
 | cons r1 r2 =>
 cases r2 with
 | cons r3 r4=>cases r4;exact⟨_,_,rfl,r1,r3⟩
theorem qX (hc:X.calm=true):cM X (.builtin "max") (λxs H Q=>∃i j,xs=[.int i,.int j]/\Q (.int (if j>i then j else i)) H):=by
 intro pins s U H xs us Q I r h;obtain⟨i,j,rfl,q⟩:=h;obtain⟨u,w',rfl,⟨t,rfl⟩,⟨t',rfl⟩⟩:=kD r;refine max_two_ints (I.ok.hd hc) λh' tk k=>⟨_,H,I.kept k,?_,q⟩;by_cases hj:j>i
 ·rw[Qs hj,Qs hj];exact⟨_,rfl⟩
 rw[Qq hj,Qq hj];exact⟨_,rfl⟩
theorem jm (hc:X.calm=true):cM X (.builtin "min") (λxs H Q=>∃i j,xs=[.int i,.int j]/\Q (.int (if j<i then j else i)) H):=by
 intro pins s U H xs us Q I r h;obtain⟨i,j,rfl,q⟩:=h;obtain⟨u,w',rfl,⟨t,rfl⟩,⟨t',rfl⟩⟩:=kD r;refine min_two_ints (I.ok.hd hc) λh' tk k=>⟨_,H,I.kept k,?_,q⟩;by_cases hj:j<i
 ·rw[Qs hj,Qs hj];exact⟨_,rfl⟩
 rw[Qq hj,Qq hj];exact⟨_,rfl⟩
theorem cD:cM X (.type "int") (λxs H Q=>(∃i,xs=[.int i]/\Q (.int i) H)\/∃k,xs=[.bl k]/\Q (.int (if k then 1 else 0)) H):=by
 intro pins s U H xs us Q I r h;rcases h with⟨i,rfl,q⟩|⟨k,rfl,q⟩
 ·obtain⟨u,rfl,t,rfl⟩:=cT r;exact call_int_int ⟨.int i,H,I,⟨_,rfl⟩,q⟩
 obtain⟨u,rfl,r1⟩:=cT r;cases r1;exact call_int_bool ⟨.int (if k then 1 else 0),H,I.tok _,⟨_,rfl⟩,q⟩
end
structure ObjM (h:Heap) (x dx C:Addr) (mA:A2):Prop where
 obj:h.get? x=some (PySem.W.instObj C dx)
 ns:h.Ns1 dx mA
 ne:dx≠x
variable {mA:A2}
theorem qy (n:h.Ns1 dx mA):∃od,h.get? dx=some od/\∀name,PySem.W.lookIn name od=some (mA name):=by
 obtain⟨o,es,ep,ho,hd,hk,_,hm⟩:=n;refine⟨o,ho,λname=>?_⟩;have e:=hm name;unfold nsFind findBy at e;rw[<-Array.find?_toList]at e;unfold PySem.W.lookIn;rw[hd];dsimp only
 split
 ·rename_i y q
  rw[q]at e;exact congrArg some e
 rename_i q
 rw[q]at e
 have a:es.toList.any (·.refKey)=false:=by
  rw[List.any_eq_false];intro y hy;obtain⟨z,t,hkey⟩:=hk y (Array.mem_toList_iff.mp hy);simp[DictEntry.refKey,hkey]
 have a':¬es.toList.any (·.refKey)=true:=by rw[a];exact Qp
 rw[Qq a'];exact congrArg some e
theorem ObjM.look {x:Addr} (I:ObjM h x dx C mA):∃od,PySem.W.InstAt h x (PySem.W.instObj C dx) C (some od)/\∀name,PySem.W.lookIn name od=some (mA name) :=
 let ⟨od,ho,hl⟩:=qy I.ns
 ⟨od,⟨I.obj,rfl,rfl,ho⟩,hl⟩
section
variable {prog:Program} {w:World} {A:Around} {E:A0} {s:Shared} {K:PySem.W.Frag} {x dx C f:Addr} {mA:A2} {name:Str} {v:Value}
end
theorem fU.some_of {v:V} {o:Option Value} (r:fU (some v) o):∃u,o=some u/\aU v u:=by
 cases o with
 | none=>exact(show False from r).elim
 | some u=>exact⟨u,rfl,r⟩
theorem fU.none_of {o:Option Value} (r:fU none o):o=none:=by
 cases o with
 | none=>rfl
 | some u=>exact(show False from r).elim
section
variable {P:Program} {w:World} {H H':Hp} {h h':Heap} {a C dx:Addr} {fs fs':List (Str × V)}
theorem u3 (hok:HOk P w H h) (e:H a=some (.ins C dx fs)):∃mA,ObjM h a dx C mA/\(∀f,fU (fs.lookup f) (mA f))/\PySem.Within mA (fs.map (·.1))/\fs.length<=1000/\H dx=some (.own a):=by
 obtain⟨d,z,ne,ob,mA,n,r,q⟩:=(show a_ P w H h a (.ins C dx fs) from hok a _ e);exact⟨mA,⟨ob,n,ne⟩,r,q,z,d⟩
end
structure Cls (K:PySem.W.Frag) (C:Addr):Prop where
 pg:PySem.W.plainGet K C Str.empty=true
 hd:PySem.W.hasDictIn K C=true
 po:PySem.W.plainOver K C=true
 sa:PySem.W.findIn K (.ref C) "__setattr__" = some (some (.builtin "object.__setattr__"))
theorem Cls.get {K:PySem.W.Frag} (c:Cls K C) (f:Str):PySem.W.plainGet K C f=true:=c.pg
structure Con (K:PySem.W.Frag) (C:Addr) (f:Str) (v:V) (u:Value):Prop where
 at_:PySem.W.findIn K (.ref C) f=some (some u)
 rel:aU v u
 get:PySem.W.specialIn K u "__get__" = some none
 cp:PySem.W.copiedNames.contains f=false
structure Meth (K:PySem.W.Frag) (C:Addr) (m:Str) (f:Addr):Prop where
 at_:PySem.W.findIn K (.ref C) m=some (some (.ref f))
 fn:PySem.W.isFn K (.ref f)=true
 kp:PySem.W.keepIn K (.ref f)=true
section
variable {X:Cx} {pins:A1} {U:St} {H:Hp} {s:Shared} {a C dx:Addr} {fs:List (Str × V)} {f:Str} {v:V} {A:Around} {E:A0}
end
section
variable {X:Cx} {o e value:Expr} {f:Str} {pos pos' tpos:Pos} {ta tv:TE}
end
section
variable {X:Cx} {pins:A1} {U:St} {H:Hp} {s:Shared} {A:Around} {E:A0} {Q:A0} {c:Value} {b:Bool}
inductive TyOf (K:PySem.W.Frag) (H:Hp):V->Value->Prop where
 | non:TyOf K H .non (.type "NoneType")
 | bl (x:Bool):TyOf K H (.bl x) (.type "bool")
 | int (i:Int):TyOf K H (.int i) (.type "int")
 | str (x:Str):TyOf K H (.str x) (.type "str")
 | flt (x:UInt64):TyOf K H (.flt x) (.type "float")
 | lst {a:Addr} {xs:List V} (e:H a=some (.lst xs)):TyOf K H (.ref a) (.type "list")
 | frz {a:Addr} {o:Obj} {xs:List V} (e:H a=some (.frz o (.lst xs))):TyOf K H (.ref a) (.type "list")
 | tup {a:Addr} {xs:List V} (e:H a=some (.tup xs)):TyOf K H (.ref a) (.type "tuple")
 | dK {a:Addr} {kvs:List (Key × V)} (e:H a=some (.dK kvs)):TyOf K H (.ref a) (.type "dict")
 | dT {a:Addr} {kvs:List (ax × V)} (e:H a=some (.dT kvs)):TyOf K H (.ref a) (.type "dict")
 | ins {a C dx:Addr} {fs:List (Str × V)} (e:H a=some (.ins C dx fs)) (cl:Cls K C) (ha:PySem.W.findIn K (.ref C) "__class__" = some (some (.builtin "object.__class__")))
   (hn:PySem.W.specialIn K (.builtin "object.__class__") "__get__" = some (some (.builtin "getset_descriptor.__get__"))) (htk:PySem.W.takesIn K (.builtin "object.__class__")=some true)
   (hm:PySem.W.mroIn K C (.type "object")=some true):TyOf K H (.ref a) (.ref C)
theorem qL {x:V} {u t:Value} (I:Inv X pins U H s) (rx:aU x u) (ty:TyOf X.K H x t) (e:PySem.W.kitOne X.K t c=some b) (h:∀tk,Q (.bool b) { s with toks:=tk }) :
  wpAny (model X.prog X.w) A (call (.builtin "isinstance") [u,c]) Q E s:=by
 cases ty with
 | non=>cases (show u=Value.none from rx);exact XT PySem.W.kitx_none I.kIn True.intro e (λz=>nomatch z) h
 | bl y=>cases (show u=Value.bool y from rx);exact XT PySem.W.kitx_bool I.kIn True.intro e (λz=>nomatch z) h
 | int i=>obtain⟨t,q⟩:=(show ∃t,u=Value.int i t from rx);cases q;exact XT PySem.W.kitx_int I.kIn True.intro e (λz=>nomatch z) h
 | str y=>obtain⟨t,q⟩:=(show ∃t,u=Value.str y t from rx);cases q;exact XT PySem.W.kitx_str I.kIn True.intro e (λz=>nomatch z) h
 | flt y=>obtain⟨t,q⟩:=(show ∃t,u=Value.float y t from rx);cases q;exact XT PySem.W.kitx_float I.kIn True.intro e (λz=>nomatch z) h
 | @lst a xs ea =>
  cases (show u=Value.ref a from rx);obtain⟨_,_,n,_,h1⟩:=(show a_ X.prog X.w H s.heap a (.lst xs) from I.hok a _ ea);exact XT PySem.W.kitx_list I.kIn ⟨_,h1,rfl⟩ e (λz=>nomatch z) h
 | @frz a ob xs ea =>
  cases (show u=Value.ref a from rx);obtain⟨_,_,_,n,_,h1⟩:=(show a_ X.prog X.w H s.heap a (.frz ob (.lst xs)) from I.hok a _ ea);exact XT PySem.W.kitx_list I.kIn ⟨_,h1,rfl⟩ e (λz=>nomatch z) h
 | @tup a xs ea =>
  cases (show u=Value.ref a from rx);obtain⟨_,_,_,p⟩:=(show a_ X.prog X.w H s.heap a (.tup xs) from I.hok a _ ea);obtain⟨o,h1,h2,_⟩:=p;exact XT PySem.W.kitx_tuple I.kIn ⟨o,h1,h2⟩ e (λz=>nomatch z) h
 | @dK a kvs ea =>
  cases (show u=Value.ref a from rx);obtain⟨_,_,vs,_,p⟩:=(show a_ X.prog X.w H s.heap a (.dK kvs) from I.hok a _ ea);obtain⟨o,es,ep,h1,h2,_⟩:=p;exact XT PySem.W.kitx_dict I.kIn ⟨o,h1,h2.1⟩ e (λz=>nomatch z) h
 | @dT a kvs ea =>
  cases (show u=Value.ref a from rx);obtain⟨_,_,xs,_,o,es,ep,h1,h2,_⟩:=(show a_ X.prog X.w H s.heap a (.dT kvs) from I.hok a _ ea);exact XT PySem.W.kitx_dict I.kIn ⟨o,h1,h2.1⟩ e (λz=>nomatch z) h
 | @ins a C dx fs ea cl ha hn htk hm =>
 cases (show u=Value.ref a from rx);obtain⟨mA,O,_⟩:=u3 I.hok ea;obtain⟨od,J,_⟩:=O.look;exact XT (PySem.W.kitx_own (cl.get _) cl.hd ha hn htk hm) I.kIn J e (λz=>nomatch z) h
end
structure Room (k:Nat) (A:Around):Prop where
 hd:A.handled=none
 dp:A.depth+3*k+5<recursionLimit
 un:A.units+16*k+200<cLine
theorem Room.mono {j k:Nat} (r:Room k A) (h:j<=k):Room j A:=⟨r.hd,by have:=r.dp;omega,by have:=r.un;omega⟩
theorem Room.deeper {k:Nat} (r:Room (k+1) A) (env:Env):Room k (A.deeper env) :=
 ⟨r.hd,by have:=r.dp;show A.depth+1+3*k+5<_;omega,by have:=r.un;show A.units+3+16*k+200<_;omega⟩
theorem Room.depth {k:Nat} (r:Room k A):A.depth<recursionLimit:=by have:=r.dp;omega
theorem Room.units {k:Nat} (r:Room k A):A.units+64<cLine:=by have:=r.un;omega
def pW:TA:=λ_ H Q=>Q [] H
def fV (ta:TE) (tr:TA):TA:=λU H Q=>ta U H λx H1=>tr U H1 λxs H2=>Q (x::xs) H2
section
variable {X:Cx} {e:Expr} {es:List Expr} {te:TE} {t:TA} {pos:Pos}
theorem ac:PA X [] pW:=λ_ _ _ _ H Q I h=>Calls.spliced_nil ⟨[],H,I,.nil,h⟩
theorem aa (ha:PE X e te) (hr:PA X es t) (hs:starEach (e::es) X.env=(false,eval e X.env)::starEach es X.env:=by rfl):PA X (e::es) (fV te t):=by
 intro pos pins s U H Q I h;rw[hs];show wpAny _ _ (spliced ((false,eval e X.env)::backTo pos (starEach es X.env))) _ _ s;refine Calls.spliced_cons (thn (ha pins s U H _ I h) λu s1 ⟨x,H1,I1,r1,q1⟩=>?_);exact thn (hr pos pins s1 U H1 _ I1 q1) λus s2 ⟨xs,H2,I2,r2,q2⟩=>⟨x::xs,H2,I2,.cons r1 r2,q2⟩
def rp (t:TA):TE:=λU H Q=>t U H λxs H1=>xs.length<=sizeLine/\∀p,H1 p=none->Q (.ref p) (upd H1 p (.tup xs))
def ww (t:TA):TE:=λU H Q=>t U H λxs H1=>xs.length<=sizeLine/\∀p,H1 p=none->Q (.ref p) (upd H1 p (.lst xs))
theorem be {x1} (h:PA X es t):PE X (.Tuple es x1 pos) (rp t):=by
 intro pins s U H Q I hq;refine wpAny_Tuple_spliced (thn (h pos pins s U H _ I hq) λus s1 ⟨xs,H1,I1,r,z,q⟩=>⟨by rw[<-r.length];exact z,?_⟩);have hf:H1 s1.heap.objs.size=none:=I1.hok.fresh (Qj _);refine⟨.ref s1.heap.objs.size,upd H1 s1.heap.objs.size (.tup xs),I1.laid (t':=s1.toks) (λb u e=>Qb _ e) (Qj _) ?_,rfl,q _ hf⟩;exact⟨z,us,r,⟨_,Qn _ rfl,rfl,_,rfl⟩⟩
theorem pe_lst (h:PA X es t):PE X (.List es pos) (ww t):=by
 intro pins s U H Q I hq;refine wpAny_List_spliced (thn (h pos pins s U H _ I hq) λus s1 ⟨xs,H1,I1,r,z,q⟩=>⟨by rw[<-r.length];exact z,?_⟩);have hf:H1 s1.heap.objs.size=none:=I1.hok.fresh (Qj _);refine⟨.ref s1.heap.objs.size,upd H1 s1.heap.objs.size (.lst xs),I1.laid (t':=s1.toks) (λb u e=>Qb _ e) (Qj _) ?_,rfl,q _ hf⟩;exact⟨z,us,0,r,Qn _ rfl⟩
end
abbrev Sp:=List V->Hp->VK->XK->Prop
abbrev CXT:=List Env->Hp->Shared->XK->A0
structure Env0 (P:Program) (w:World) (K:PySem.W.Frag) (mg:A2) (base:Heap) (A:Around) (outer:List Env) (s:Shared) (H:Hp):Prop where
 frames:A.frames=some outer
 mod:Mod K mg base
 bs:∀b o,base.get? b=some o->s.heap.get? b=some o/\H b=none
 bsz:base.objs.size<=s.heap.objs.size
 funs:s.heap.FunFrames base outer
 frf:∀b∈frs outer,H b=none
 hok:HOk P w H s.heap
 bare:AllBare s.gens
def CE (outer:List Env) (P:Program) (w:World) (H:Hp) (s:Shared) (Q:VK) (u:Value) (s':Shared):Prop :=
 ∃v H',s'.os=s.os/\AllBare s'.gens/\Un (frs outer) [] H H' s.heap s'.heap/\HOk P w H' s'.heap/\aU v u/\Q v H'
def CR (CX:CXT) (outer:List Env) (P:Program) (w:World) (H:Hp) (s:Shared) (Q:VK) (E:XK) (r:Result) (s':Shared):Prop :=
 match r with
 | .ok (.ret u)=>CE outer P w H s Q u s'
 | .ok _=>False
 | .error e=>CX outer H s E e s'
structure FnOk (P:Program) (w:World) (K:PySem.W.Frag) (mg:A2) (base:Heap) (CX:CXT) (k:Nat) (f:Addr) (fd:FuncData) (ps:List Str) (sp:Sp):Prop where
 len:∀vs H Q E,sp vs H Q E->vs.length=ps.length
 run:∀(A:Around) (outer:List Env) (s:Shared) (H:Hp) (args:Args) (us:List Value) (vs:List V) (Q:VK) (E:XK),Room k A->Env0 P w K mg base A outer s H->BindsTo s fd args (ps.zip us)->aO vs us->sp vs H Q E ->
  codeAny (model P w) A (.call (.ref f) args) (CR CX outer P w H s Q E) s
section
variable {X:Cx} {pins:A1} {U:St} {H:Hp} {s s':Shared}
theorem Inv.env0 (I:Inv X pins U H s):Env0 X.prog X.w X.K X.mg X.base X.A X.stack s H :=
 ⟨I.ok.frames,I.ok.mod,I.bs,QK I.ok.bsz I.sz,I.stack,I.stkFree,I.hok,I.bare⟩
theorem Inv.after {Q:VK} {u:Value} (I:Inv X pins U H s) (h:CE X.stack X.prog X.w H s Q u s'):EP X pins U Q u s':=by
 obtain⟨v,H',os,bare,un,hok,r,q⟩:=h;obtain⟨hh,g,d,t,os'⟩:=s';obtain rfl:os'=s.os:=os;exact⟨v,H',I.call (h':=hh) (g':=g) (d':=d) (t':=t) (ch:=[]) un hok bare (λb z=>absurd z (by simp)),r,q⟩
end
def nZ (sp:Sp) (dvs:List V) (E:XK) (t:TA):TE:=λU H Q=>t U H λvs H1=>sp (vs++dvs) H1 Q E
def iB (K:PySem.W.Frag) (fd:FuncData) (ps:List Str) (ds:List Value):Prop :=
 ∀(s:Shared) (us:List Value),K.In s.heap->(us++ds).length=ps.length->BindsTo s fd ⟨us,[]⟩ (ps.zip (us++ds))
variable {ps N:List Str}
theorem iB.all {K:PySem.W.Frag} {fd:FuncData} (h:∀us:List Value,us.length=ps.length->bindArgs fd ⟨us,[]⟩=pure (ps.zip us)):iB K fd ps []:=λs us _ hl=>by
 rw[List.append_nil]at hl ⊢;exact .of_eq (h us hl)
def kw (CX:CXT) (X:Cx) (E:XK):Prop:=∀(pins:A1) (U:St) (H:Hp) (s:Shared) (e:Value) (s':Shared),Inv X pins U H s->CX X.stack H s E e s'->X.xe e s'
section
variable {X:Cx} {CX:CXT} {k:Nat} {f C:Addr} {fd:FuncData} {ps:List Str} {sp:Sp} {dvs:List V} {ds:List Value} {E:XK} {x m:Str} {p pos apos:Pos} {e o:Expr} {es:List Expr} {ta:TE} {t:TA}
theorem wD {pins:A1} {U:St} {H:Hp} {s:Shared} {Q:VK} {us:List Value} {vs:List V} (F:FnOk X.prog X.w X.K X.mg X.base CX k f fd ps sp) (hr:Room k X.A) (hb:iB X.K fd ps ds) (hd:aO dvs ds) (hx:kw CX X E)
  (I:Inv X pins U H s) (r:aO vs us) (h:sp (vs++dvs) H Q E):wpAny (model X.prog X.w) X.A (call (.ref f) us) (EP X pins U Q) X.xe s:=by
 have r2:aO (vs++dvs) (us++ds):=r.append hd;have hl:(us++ds).length=ps.length:=by rw[<-r2.length];exact F.len _ _ _ _ h
 refine wpAny_call (codeAny_mono (F.run X.A X.stack s H ⟨us,[]⟩ (us++ds) (vs++dvs) Q E hr I.env0 (hb s us I.kIn hl) r2 h) λr s' hq=>?_)
 cases r with
 | error e=>exact hx pins U H s e s' I hq
 | ok fl =>
 cases fl with
 | ret u=>exact I.after hq
 | next=>exact False.elim hq
 | brk=>exact False.elim hq
 | cont=>exact False.elim hq
theorem uw (F:FnOk X.prog X.w X.K X.mg X.base CX k f fd ps sp) (hr:Room k X.A) (hg:Gl X x) (hm:X.mg x=some (.ref f)) (hk:PySem.W.keepIn X.K (.ref f)=true) (hb:iB X.K fd ps ds) (hd:aO dvs ds) (hx:kw CX X E)
  (ha:PA X (e::es) t) (hdb:(x==("__debug__" : Str))=false:=by decide) (he:starEach (e::es) X.env=(false,eval e X.env)::starEach es X.env:=by rfl) (hpl:(backTo pos (starEach es X.env)).any (·.1)=false:=by rfl) :
  PE X (.Call (.Name x p) (e::es) [] pos) (nZ sp dvs E t):=by
 intro pins s U H Q I h;refine wpAny_Call_Name_kw (pc I hg hm ?_ hdb);refine PySem.W.callWith_K (h₀:=X.base) I.ok.mod.kin hk (thn (ha pos pins s U H _ I h) λus s1 ⟨vs,H1,I1,r,q⟩=>⟨I1.kIn,?_⟩) he hpl;exact wD F hr hb hd hx I1 r q
structure Mk (K:PySem.W.Frag) (C f:Addr):Prop where
 makes:PySem.W.makesIn K C=true
 init:PySem.W.findIn K (.ref C) "__init__" = some (some (.ref f))
 fn:PySem.W.isFn K (.ref f)=true
 kp:PySem.W.keepIn K (.ref C)=true
end
section
variable {X:Cx} {CX:CXT} {k:Nat} {f C:Addr} {fd:FuncData} {ps ks:List Str} {sp:Sp} {E:XK} {x m:Str} {p pos apos kpos:Pos} {e o:Expr} {es:List Expr} {kws:List Keyword} {te ta:TE} {t tk:TA} {nm:Option Str}
structure KBinds (K:PySem.W.Frag) (fd:FuncData) (ps ks:List Str) (g:List Value->List Value->List Value) (gV:List V->List V->List V):Prop where
 to:∀(s:Shared) (us ws:List Value),K.In s.heap->(g us ws).length=ps.length->BindsTo s fd ⟨us,ks.zip ws⟩ (ps.zip (g us ws))
 rel:∀{vs:List V} {us:List Value} {zs:List V} {ws:List Value},aO vs us->aO zs ws->aO (gV vs zs) (g us ws)
variable {g:List Value->List Value->List Value} {gV:List V->List V->List V}
end
structure FnScope (N P:List Str) (sc:Scope):Prop where
 kind:sc.kind=.function
 co:sc.isCoroutine=false
 gen:sc.isGenerator=false
 nd:N.Nodup
 pre:N.take P.length=P
 par:∀x∈P,sc.names.lookup x=some .local\/sc.names.lookup x=some .cell
 nofree:∀y∈sc.names,y.2≠.free
theorem jn {kindOf:Str->Option NameKind} {x:Str}:∀{binds:List (Str × Value)} {m:A2},(∀v,(x,v)∉binds)->bindL kindOf binds m x=m x
 | [],_,_=>rfl
 | (n,v)::r,m,h=>by
  unfold bindL;rw[jn λw hw=>h w (Qu _ hw)]
  split
  ·have:x≠n:=by rintro rfl;exact h v Xu
   simp[this]
  rfl
theorem jp {kindOf:Str->Option NameKind} {x:Str}:∀{binds:List (Str × Value)} {m:A2},(∀v,(x,v)∉binds)->bindC kindOf binds m x=m x
 | [],_,_=>rfl
 | (n,v)::r,m,h=>by
  unfold bindC;rw[jp λw hw=>h w (Qu _ hw)]
  split
  ·rfl
  have:x≠n:=by rintro rfl;exact h v Xu
  simp[this]
theorem jo {kindOf:Str->Option NameKind} {x:Str} {v:Value}:∀{P:List Str} {vs:List Value} {i:Nat} {m:A2},P.Nodup->P[i]?=some x->vs[i]?=some v->kindOf x=some .local ->
  bindL kindOf (P.zip vs) m x=some v
 | [],_,_,_,_,h,_,_=>by simp at h
 | _::_,[],_,_,_,_,h,_=>by simp at h
 | p::P,w::vs,0,m,nd,h1,h2,hk=>by
  simp at h1 h2;subst h1;subst h2;show bindL kindOf ((p,w)::P.zip vs) m p=_;unfold bindL;rw[jn λv hv=>(QS.mp nd).1 (List.of_mem_zip hv).1,Qs hk];simp
 | p::P,w::vs,i+1,m,nd,h1,h2,hk=>by
  show bindL kindOf ((p,w)::P.zip vs) m x=_;unfold bindL;exact jo (i:=i) (QS.mp nd).2 (by simpa using h1) (by simpa using h2) hk
theorem jq {kindOf:Str->Option NameKind} {x:Str} {v:Value}:∀{P:List Str} {vs:List Value} {i:Nat} {m:A2},P.Nodup->P[i]?=some x->vs[i]?=some v->kindOf x≠some .local ->
  bindC kindOf (P.zip vs) m x=some v
 | [],_,_,_,_,h,_,_=>by simp at h
 | _::_,[],_,_,_,_,h,_=>by simp at h
 | p::P,w::vs,0,m,nd,h1,h2,hk=>by
  simp at h1 h2;subst h1;subst h2;show bindC kindOf ((p,w)::P.zip vs) m p=_;unfold bindC;rw[jp λv hv=>(QS.mp nd).1 (List.of_mem_zip hv).1,Qq hk];simp
 | p::P,w::vs,i+1,m,nd,h1,h2,hk=>by
  show bindC kindOf ((p,w)::P.zip vs) m x=_;unfold bindC;exact jq (i:=i) (QS.mp nd).2 (by simpa using h1) (by simpa using h2) hk
def start (N:List Str) (vs:List V):St:=vs.map some++List.replicate (N.length-vs.length) none
noncomputable def cxOf (CX:CXT) (P:Program) (w:World) (K:PySem.W.Frag) (mg:A2) (base:Heap) (N:List Str) (qual:Str) (scope:Scope) (f:Addr) (cd:Value) (A:Around) (outer:List Env) (s:Shared) (H:Hp) (E:XK):Cx where
 prog:=P
 w:=w
 K:=K
 mg:=mg
 base:=base
 A:=A.deeper (envOfC qual scope s.heap.objs.size f cd)
 N:=N
 s₀:=s
 H₀:=H
 env:=envOfC qual scope s.heap.objs.size f cd
 outer:=outer
 stack:=envOfC qual scope s.heap.objs.size f cd::outer
 ex:=[]
 calm:=true
 fn:=λ_=>true
 pn:=[]
 xe:=λe s'=>wpAny (model P w) (A.deeper (envOfC qual scope s.heap.objs.size f cd)) (leaving (envOfC qual scope s.heap.objs.size f cd) e) (λ_ s''=>CX outer H s E e s'') (λe' s''=>CX outer H s E e' s'') s'
variable {sc scope:Scope}
theorem l9 {n:Nat} {x:Str} (h:sc.names.lookup x=some .cell):∃c,(cellsFrom n sc.names []).lookup x=some c:=by
 have q:=PySem.W.cellsFrom_some sc.names n [] (.inl h);exact Option.isSome_iff_exists.mp q
theorem qM {CX:CXT} {P:Program} {w:World} {K:PySem.W.Frag} {mg:A2} {base:Heap} {qual:Str} {outer:List Env} {E:XK} {us:List Value} {vs:List V}
  (S:FnScope N ps scope) (hd:A.handled=none) (e0:Env0 P w K mg base A outer s H) (hl:vs.length=ps.length) (r:aO vs us)
  (x:InCallC s s.heap.objs.size (bindL (envOfC qual scope s.heap.objs.size f cd).kindOf (ps.zip us) λ_=>none) (cellsFrom (s.heap.objs.size+1) scope.names []) (bindC (envOfC qual scope s.heap.objs.size f cd).kindOf (ps.zip us) λ_=>none) s1) :
  Inv (cxOf CX P w K mg base N qual scope f cd A outer s H E) [] (start N vs) H s1:=by
 have hpl:ps.length<=N.length:=by have:=congrArg List.length S.pre;rw[QM]at this;omega
 obtain⟨h1,tk,rfl,hk⟩:=x.done;have noA:∀b:Addr,b∉(cxOf CX P w K mg base N qual scope f cd A outer s H E).ex:=λb z=>absurd (show b∈([]:A3) from z) (by simp)
 refine⟨⟨e0.mod,S.kind,rfl,rfl,Qj _,λy z c h1 h2=>?_,λy hy=>?_,λy c _ h=>?_,λ_=>hd,Around.frames_deeper e0.frames,.inr ⟨rfl,rfl⟩,λb z=>absurd z (noA b),e0.bs,e0.bsz,λb _ _=>noA b,λb z=>absurd z (noA b),e0.funs,e0.frf⟩,
  rfl,e0.bare,Un.kept hk,⟨_,x.toInCall.ns,λi y v h1 h2 h3=>?_⟩,λy c h=>⟨_,x.cell y c h⟩,e0.hok.fresh (Qj _),λy c h=>?_,λp hp=>absurd (show p∈([]:A1) from hp) (by simp),e0.hok.kept hk,?_⟩
 ·exact name_of_addr x.apart (PySem.mem_of_lookup h1) (PySem.mem_of_lookup h2)
 ·have hy:scope.names.lookup y=some .cell\/scope.names.lookup y=some .free:=hy;rcases hy with hy|hy
  ·exact l9 hy
  exact absurd rfl (S.nofree _ (PySem.mem_of_lookup hy))
 ·exact Nat.le_of_lt (x.above y c (PySem.mem_of_lookup h))
 ·have hi:i<vs.length:=by
   unfold start at h2;by_cases hi:i<vs.length
   ·exact hi
   rw[Xf (by simpa using hi)]at h2;rw[List.getElem?_replicate]at h2
   split at h2 <;> cases h2
  have ha:vs[i]?=some v:=by
   unfold start at h2;rw[Xx (by simpa using hi),Qv]at h2
   cases e:vs[i]? with
   | none=>rw[e]at h2;cases h2
   | some a=>rw[e]at h2;cases h2;rfl
  obtain⟨u,hu,rv⟩:=r.get ha
  have hp:ps[i]?=some y:=by
   rw[<-S.pre,List.getElem?_take_of_lt (by omega)];exact h1
  have ndP:ps.Nodup:=by rw[<-S.pre];exact S.nd.sublist (List.take_sublist _ _)
  refine⟨u,rv,?_⟩;rcases S.par y (Ql hp) with k|k
  ·exact .inl ⟨k,jo ndP hp hu k⟩
  obtain⟨c,e⟩:=l9 (n:=s.heap.objs.size+1) k;refine .inr ⟨.inl k,c,e,?_⟩;have q:=x.cell y c e;rw[jq ndP hp hu (by show scope.names.lookup y≠_;rw[k];decide)]at q;exact q
 ·exact e0.hok.fresh (Nat.le_of_lt (x.above y c (PySem.mem_of_lookup h)))
 unfold start;show _=N.length;rw[Qh,Qc,List.length_replicate];omega
theorem v5 {CX:CXT} {P:Program} {w:World} {K:PySem.W.Frag} {mg:A2} {base:Heap} {k:Nat} {name qual:Str} {params:Arguments} {body:List Stmt} {kV:Value} {an od:Option Addr}
  {osl:Array (Option Value)} {sp:Sp} (lk:K.lookup f=some ⟨oc,od,.func (PySem.W.fnOf name qual params body scope dV kV doc pm an cdv ct),osl⟩) (hcd:PySem.W.codeIn K cdv qual=true) (S:FnScope N ps scope)
  (len:∀vs H Q E,sp vs H Q E->vs.length=ps.length)
  (hbody:∀(A:Around) (outer:List Env) (s:Shared) (H:Hp) (vs:List V) (Q:VK) (E:XK),Room k (A.deeper (envOfC qual scope s.heap.objs.size f cdv))->sp vs H Q E ->
   ∃t,PSs (cxOf CX P w K mg base N qual scope f cdv A outer s H E) body t/\t { nx:=λ_ H'=>Q .non H',rt:=Q } (start N vs) H) :
  FnOk P w K mg base CX (k+1) f (PySem.W.fnOf name qual params body scope dV kV doc pm an cdv ct) ps sp:=by
 refine⟨len,λA outer s H args us vs Q E hr e0 hb r hsp=>?_⟩;have hl:=len _ _ _ _ hsp;have KX:K.In s.heap:=e0.mod.kin.keeps λb o e=>(e0.bs b o e).1;have lim:s.heap.NoLimit:=e0.mod.nolimit.keeps λb o e=>(e0.bs b o e).1
 have hkind:∀y∈ps.zip us,scope.names.lookup y.1=some .local\/(scope.names.lookup y.1=some .cell/\((cellsFrom (s.heap.objs.size+1) scope.names []).lookup y.1).isSome=true):=λ⟨n,v⟩ hy=>by
  rcases S.par n (List.of_mem_zip hy).1 with q|q
  ·exact .inl q
  exact .inr ⟨q,PySem.W.cellsFrom_some _ _ _ (.inl q)⟩
 refine codeAny_call_function hr.depth (KX _ _ lk) rfl S.co S.gen rfl (PySem.W.codeRec_of KX hcd) (hb _ _ _ _ ?_);refine wpAny_newFunctionEnv_cells S.kind hkind λenv he s1 x=>?_;subst he;refine⟨lim.keeps x.toInCall.keep,codeAny_func ?_⟩;obtain⟨t,ht,hq⟩:=hbody A outer s H vs Q E (hr.deeper _) hsp;have I:Inv (cxOf CX P w K mg base N qual scope f cdv A outer s H E) [] (start N vs) H s1:=qM S hr.hd e0 hl r x;refine XV (ht [] s1 (start N vs) H _ I hq) (λfl s' hs=>?_) λe s' hs=>hs
 have fin:∀{σ':St} {H':Hp} {v:V} {u:Value},Inv (cxOf CX P w K mg base N qual scope f cdv A outer s H E) [] σ' H' s'->aU v u->Q v H'->CE outer P w H s Q u s' :=
  λ{σ' H' v u} J rv q=>⟨v,H',J.os,J.bare,J.base,J.hok,rv,q⟩
 cases fl with
 | ret u =>
  obtain⟨v,σ',H',J,rv,q⟩:=hs;exact fin J rv q
 | next =>
  obtain⟨σ',H',J,q⟩:=hs;exact fin (v:=V.non) (u:=Value.none) J rfl q
 | brk =>
  obtain⟨_,_,_,q⟩:=hs;exact False.elim q
 | cont =>
 obtain⟨_,_,_,q⟩:=hs;exact False.elim q
section
variable {X:Cx} {x:Str} {p pos:Pos} {e:Expr} {es:List Expr} {t:TA} {id T:String} {r:List V->Hp->VK->Prop}
def tCB (r:List V->Hp->VK->Prop) (t:TA):TE:=λU H Q=>t U H λvs H1=>r vs H1 Q
theorem am (hc:cM X (.builtin id) r) (hg:Gl X x) (hm:X.mg x=none) (hv:bootBuiltins x=some (.builtin id)) (ha:PA X (e::es) t) (hn:x ≠ "__name__" := by decide) (hdb:(x==("__debug__" : Str))=false:=by decide)
  (he:starEach (e::es) X.env=(false,eval e X.env)::starEach es X.env:=by rfl) (hpl:(backTo pos (starEach es X.env)).any (·.1)=false:=by rfl):PE X (.Call (.Name x p) (e::es) [] pos) (tCB r t):=by
 intro pins s U H Q I h;refine wpAny_Call_Name_kw (cr I hg hm hv ?_ hn hdb);exact PyProof.Rows.callWith_builtin1 (thn (ha pos pins s U H _ I h) λus s1 ⟨vs,H1,I1,r1,q1⟩=>hc pins s1 U H1 vs us Q I1 r1 q1) he hpl
theorem bq (hc:cM X (.type T) r) (hg:Gl X x) (hm:X.mg x=none) (hv:bootBuiltins x=some (.type T)) (ha:PA X (e::es) t) (hn:x ≠ "__name__" := by decide) (hdb:(x==("__debug__" : Str))=false:=by decide)
  (he:starEach (e::es) X.env=(false,eval e X.env)::starEach es X.env:=by rfl) (hpl:(backTo pos (starEach es X.env)).any (·.1)=false:=by rfl):PE X (.Call (.Name x p) (e::es) [] pos) (tCB r t):=by
 intro pins s U H Q I h;refine wpAny_Call_Name_kw (cr I hg hm hv ?_ hn hdb);exact Q9 (thn (ha pos pins s U H _ I h) λus s1 ⟨vs,H1,I1,r1,q1⟩=>hc pins s1 U H1 vs us Q I1 r1 q1) he hpl
end
end L2
namespace HT
open PySem PyProof.Rows
section
open PySem.SeqAt
open PySem.AutoSeq1 (wpAny_loadPart')
open PySem.MeetsSeq PySem.MeetsSeq2 PySem.MeetsSeq3
end
section
variable {prog:Program} {w:World} {A:Around} {E:A0} {s:Shared}
def sIx (n d:Nat):Option Int->Nat
 | none=>d
 | some v=>if v<0 then (v+(n:Int)).toNat else min v.toNat n
theorem lc (n d:Nat):sIx n d none=d:=rfl
theorem oB (n d k:Nat):sIx n d (some (k:Int))=min k n:=by
 show (if (k:Int)<0 then ((k:Int)+(n:Int)).toNat else min (k:Int).toNat n)=min k n;rw[Qq (by omega),Xa]
end
end HT
namespace L2
open PySem PySem.Spec PyProof.Rows
abbrev TO:=St->Hp->(Option Int->Hp->Prop)->Prop
def PO (X:Cx) (e:Option Expr) (t:TO):Prop :=
 ∀(pins:A1) (s:Shared) (U:St) (H:Hp) (Q:Option Int->Hp->Prop),Inv X pins U H s->t U H Q ->
  wpAny (model X.prog X.w) X.A (evalPart e X.env) (λu s'=>∃o H',Inv X pins U H' s'/\IsPart u o/\Q o H') X.xe s
def nV:TO:=λ_ H Q=>Q none H
def vC (t:TE):TO:=λU H Q=>t U H λx H1=>∃i,x=.int i/\Q (some i) H1
section
variable {X:Cx} {e:Expr} {te:TE} {lo hi:Option Expr} {tl th:TO} {pos p2:Pos}
theorem cP:PO X none nV:=by
 intro pins s U H Q I h;rw[evalPart_none];exact Qe ⟨none,H,I,.none,h⟩
theorem cO (h:PE X e te):PO X (some e) (vC te):=by
 intro pins s U H Q I hw;rw[evalPart_some];refine thn (h pins s U H _ I hw) λu s1 ⟨x,H1,I1,r1,q1⟩=>?_;obtain⟨i,rfl,q⟩:=q1;obtain⟨t,rfl⟩:=r1;exact⟨some i,H1,I1,.int i t,q⟩
def SlR (X:Cx) (r:V->Option Int->Option Int->Hp->VK->Prop):Prop :=
 ∀(pins:A1) (s:Shared) (U:St) (H:Hp) (x:V) (v vl vu:Value) (lo hi:Option Int) (sl:Addr) (Q:VK),Inv X pins U H s->aU x v->s.heap.IsSliceOf sl vl vu .none->IsPart vl lo->IsPart vu hi->r x lo hi H Q ->
  ∃T id,typeLookup (.type T) "__getitem__" = pure (some (.builtin id))/\s.TypeIs v T/\wpAny (model X.prog X.w) X.A (getItem v (.ref sl)) (EP X pins U Q) X.xe s
def tSl (r:V->Option Int->Option Int->Hp->VK->Prop) (te:TE) (tl th:TO):TE:=λU H Q=>te U H λx H1=>tl U H1 λl H2=>th U H2 λu H3=>r x l u H3 Q
theorem cq {r:V->Option Int->Option Int->Hp->VK->Prop} (hr:SlR X r) (he:PE X e te) (hl:PO X lo tl) (hu:PO X hi th):PE X (.Subscript e (.Slice lo hi none p2) pos) (tSl r te tl th):=by
 intro pins s U H Q I h;refine Subscript_ (thn (he pins s U H _ I h) λv s1 ⟨x,H1,I1,r1,q1⟩=>?_);refine wpAny_Slice (thn (hl pins s1 U H1 _ I1 q1) λvl s2 ⟨l,H2,I2,pl,q2⟩=>thn (hu pins s2 U H2 _ I2 q2) λvu s3 ⟨u,H3,I3,pu,q3⟩=>?_);rw[evalPart_none];refine Qe ?_;have I4:Inv X pins U H3 { s3 with heap:=s3.heap.push { cls:=.type "slice", data:=.fields #[vl,vu,.none] } }:=I3.kept (t':=s3.toks) λb ob q=>Qb _ q;obtain⟨T,id,hT,ht,hg⟩:=hr pins { s3 with heap:=s3.heap.push { cls:=.type "slice", data:=.fields #[vl,vu,.none] } } U H3 x v vl vu l u s3.heap.objs.size Q I4 r1 (Heap.IsSliceOf.new ..) pl pu q3;show wpAny (model X.prog X.w) X.A (subscriptTail e (.Slice lo hi none p2) v (.ref s3.heap.objs.size)) (EP X pins U Q) X.xe { s3 with heap:=s3.heap.push { cls:=.type "slice", data:=.fields #[vl,vu,.none] } };exact tail_any (ops:=[.ref s3.heap.objs.size,v]) ht hT hg (by with_unfolding_all rfl)
def j4 (xs:List V) (lo hi:Option Int):List V:=(xs.drop (HT.sIx xs.length 0 lo)).take (HT.sIx xs.length xs.length hi-HT.sIx xs.length 0 lo)
theorem lY (xs:List V) (lo hi:Option Int):(j4 xs lo hi).length<=xs.length:=by
 unfold j4;rw[QM,XI];omega
end
def ixN (n:Nat) (i:Int):Option Nat:=if 0<=i then (if i<n then some i.toNat else none) else if -(n:Int)<=i then some (i+n).toNat else none
def atI {α:Type} (xs:List α) (i:Int):Option α:=(ixN xs.length i).bind λj=>xs[j]?
theorem jR {n:Nat} {i:Int} {j:Nat} (h:ixN n i=some j):seqIndex? i n=some j/\j<n/\-(n:Int)<=i/\i<n:=by
 unfold ixN at h;by_cases h0:0<=i
 ·rw[Qs h0]at h;by_cases h1:i<n
  ·rw[Qs h1]at h;have e:i.toNat=j:=QH h;exact⟨by rw[seqIndex_of h0 h1,e],by omega,by omega,h1⟩
  rw[Qq h1]at h;cases h
 rw[Qq h0]at h;by_cases h1:-(n:Int)<=i
 ·rw[Qs h1]at h;have e:(i+n).toNat=j:=QH h;exact⟨by rw[seqIndex_neg (by omega) h1,e],by omega,h1,by omega⟩
 rw[Qq h1]at h;cases h
theorem kg {α:Type} {xs:List α} {i:Int} {v:α} (h:atI xs i=some v):∃j,seqIndex? i xs.length=some j/\xs[j]?=some v/\j<xs.length/\-(xs.length:Int)<=i/\i<xs.length:=by
 unfold atI at h
 cases e:ixN xs.length i with
 | none=>rw[e]at h;cases h
 | some j =>
 rw[e]at h;obtain⟨h1,h2,h3,h4⟩:=jR e;exact⟨j,h1,h,h2,h3,h4⟩
theorem cw {α:Type} {xs:List α} {j:Nat} {v:α} (h:xs[j]?=some v):atI xs (j:Int)=some v:=by
 have hj:j<xs.length:=(Qf.mp h).1
 have e:ixN xs.length (j:Int)=some j:=by
  unfold ixN;rw[Qs (by omega),Qs (by omega)];simp
 unfold atI;rw[e];exact h
def vv (b:Expr):Prop:=∀o i,subscripted b false o i=operate [o,i] (getItem o i)
def IxR (X:Cx) (r:R2):Prop :=
 ∀(value slice:Expr) (pins:A1) (s:Shared) (U:St) (H:Hp) (x y:V) (v u:Value) (Q:VK),Inv X pins U H s->aU x v->aU y u->r x y H Q ->
  subscripted slice false v u=operate [v,u] (getItem v u)->wpAny (model X.prog X.w) X.A (subscriptTail value slice v u) (EP X pins U Q) X.xe s
def MtR (X:Cx) (id:String) (r:V->List V->Hp->VK->Prop):Prop :=
 ∀(pins:A1) (s:Shared) (U:St) (H:Hp) (x:V) (xs:List V) (v:Value) (us:List Value) (Q:VK),Inv X pins U H s->aU x v->aO xs us->r x xs H Q ->
  wpAny (model X.prog X.w) X.A (call (.builtin id) (v::us)) (EP X pins U Q) X.xe s
section
variable {X:Cx} {a b:Expr} {ta tb:TE} {pos:Pos}
theorem aj {r:R2} (hr:IxR X r) (ha:PE X a ta) (hb:PE X b tb) (hs:vv b:=by exact λ_ _=>rfl):PE X (.Subscript a b pos) (tOp r ta tb):=by
 intro pins s U H Q I h;exact Subscript_ (xy ha hb I h λv u s2 x y H2 I2 rx ry q=>hr a b pins s2 U H2 x y v u Q I2 rx ry q (hs _ _))
def xS (K:PySem.W.Frag):R2:=λx y H Q=>∃p xs i v,x=.ref p/\y=.int i/\SqL K H p xs/\atI xs i=some v/\Q v H
def wF (K:PySem.W.Frag):R2:=λx y H Q=>∃p xs i v,x=.ref p/\y=.int i/\SqT K H p xs/\atI xs i=some v/\Q v H
def wG:R2:=λx y H Q=>∃z i c,x=.str z/\y=.int i/\z.length<=sizeLine/\atI z.cps.toList i=some c/\Q (.str ⟨#[c]⟩) H
theorem aR:IxR X (xS X.K):=by
 intro value slice pins s U H x y v u Q I rx ry h hs;obtain⟨p,xs,i,z,rfl,rfl,hq,he,q⟩:=h;cases rx;obtain⟨t,rfl⟩:=ry;obtain⟨its,r,pl,hz⟩:=I.list hq;obtain⟨j,h1,h2,h3,h4,h5⟩:=kg he;obtain⟨w,ew,rw'⟩:=r.get h2;have hl:=r.length;have hn:=fL;have fin:EP X pins U Q w s:=⟨z,H,I,rw',q⟩;by_cases h0:0<=i
 ·have hj:i.toNat=j:=by
   rw[seqIndex_of h0 h5]at h1;exact QH h1
  exact item_listR pl.isList h0 (by omega) (by rw[hj];simpa using ew) fin hs
 have hj:(i+(its.toArray.size:Int)).toNat=j:=by
  rw[seqIndex_neg (by omega) h4]at h1;rw[Qi,<-hl];exact QH h1
 exact subscriptTail_builtinR (x:=w) pl.isList.typeIs slot_list_getitem.lookup
  (wpAny_getItem_list_neg (Q:=λr s'=>r=w/\EP X pins U Q r s') pl.isList (by omega) (by rw[Qi] <;> omega) (by omega) (by rw[hj];simpa using ew) ⟨rfl,fin⟩) hs
theorem au:IxR X (wF X.K):=by
 intro value slice pins s U H x y v u Q I rx ry h hs;obtain⟨p,xs,i,z,rfl,rfl,hq,he,q⟩:=h;cases rx;obtain⟨t,rfl⟩:=ry;obtain⟨its,r,pl,hz⟩:=I.tuple hq;obtain⟨j,h1,h2,h3,h4,h5⟩:=kg he;obtain⟨w,ew,rw'⟩:=r.get h2;have hl:=r.length;have hn:=fL;have fin:EP X pins U Q w s:=⟨z,H,I,rw',q⟩
 exact subscriptTail_builtinR (x:=w) pl.typeIs slot_tuple_getitem.lookup
  (getItem_tuple (j:=j) (Q:=λr s'=>r=w/\EP X pins U Q r s') pl (by omega) (by omega) (by rw[Qi,<-hl];exact h1) (by simpa using ew) ⟨rfl,fin⟩) hs
theorem cX:IxR X wG:=by
 intro value slice pins s U H x y v u Q I rx ry h hs;obtain⟨z,i,c,rfl,rfl,hz,he,q⟩:=h;obtain⟨t,rfl⟩:=rx;obtain⟨t',rfl⟩:=ry;obtain⟨j,h1,h2,h3,h4,h5⟩:=kg he;have hl:z.cps.toList.length=z.length:=by simp[Str.length]
 rw[hl]at h1 h4 h5;have hn:=fL
 exact tail_any (typeIs_str s z t) slot_str_getitem.lookup (getItem_str (c:=c) (by
  have e1:decide (i < -(2 ^ 63:Int))=false:=Qy (by omega);have e2:decide (i>=2 ^ 63)=false:=Qy (by omega)
  rw[e1,e2,Bool.or_false]) (by rw[h1];simpa using h2) ⟨.str ⟨#[c]⟩,H,I.tok _,⟨_,rfl⟩,q⟩) hs
theorem nc (its:List Value) (n j:Nat) (u:Value):Obj.mapSeq (·.setIfInBounds j u) { cls:=.type "list", data:=.seq its.toArray n }={ cls:=.type "list", data:=.seq (its.set j u).toArray n }:=by
 simp[Obj.mapSeq]
variable {s:Shared} {pins:A1}
theorem Inv.lst {U:St} {H:Hp} {p:Addr} {xs:List V} (I:Inv X pins U H s) (h:H p=some (.lst xs)) :
  ∃(its:List Value) (n:Nat),aO xs its/\s.heap.get? p=some { cls:=.type "list", data:=.seq its.toArray n }/\xs.length<=sizeLine:=by
 obtain⟨z,its,n,r,e⟩:=I.hok p _ h;exact⟨its,n,r,e,z⟩
theorem Inv.lstUpd {U:St} {H:Hp} {p:Addr} {xs ys:List V} {its its':List Value} {n n':Nat} {f:Obj->Obj} (I:Inv X pins U H s) (h:H p=some (.lst xs))
  (ho:s.heap.get? p=some { cls:=.type "list", data:=.seq its.toArray n }) (hf:f { cls:=.type "list", data:=.seq its.toArray n }={ cls:=.type "list", data:=.seq its'.toArray n' }) (r:aO ys its') (hz:ys.length<=sizeLine) (t:Nat) :
  Inv X pins U (upd H p (.lst ys)) { s with heap:=s.heap.update p f,toks:=t }:=by
 have e:(s.heap.update p f).get? p=some { cls:=.type "list", data:=.seq its'.toArray n' }:=by
  rw[Xj f ho (by rw[hf] <;> rfl),hf]
 refine I.write (x:=p) (e:=p) (by rw[h];trivial) (.inl rfl) (λb u hb q=>(Xl _ _ (Ne.symm hb)).trans q) ⟨_,e⟩ ?_;exact⟨hz,its',n',r,e⟩
def vR:V->V->V->Hp->(Hp->Prop)->Prop:=λo i v H Q=>∃p xs k j,o=.ref p/\i=.int k/\H p=some (.lst xs)/\ixN xs.length k=some j/\Q (upd H p (.lst (xs.set j v)))
theorem kR:yC X vR:=by
 intro pins s U H o i v ov iv u Q I ro ri rv h;obtain⟨p,xs,k,j,rfl,rfl,hp,hj,q⟩:=h;cases ro;obtain⟨t,rfl⟩:=ri;obtain⟨its,n,r,ho,hz⟩:=I.lst hp;obtain⟨h1,h2,h3,h4⟩:=jR hj;have hl:=r.length;have hn:=fL
 have I':Inv X pins U (upd H p (.lst (xs.set j v))) { s with heap:=s.heap.update p (Obj.mapSeq (·.setIfInBounds j u)) } :=
  I.lstUpd hp ho (nc its n j u) (r.set rv j) (by rw[List.length_set];exact hz) s.toks
 by_cases h0:0<=k
 ·have hk:k.toNat=j:=by
   rw[seqIndex_of h0 h4]at h1;exact QH h1
  exact PySem.W.ki_setAt ho h0 (by omega) (by rw[Qi,<-hl];exact h4) (by rw[hk];exact⟨_,I',q⟩)
 have hk:(k+(its.toArray.size:Int)).toNat=j:=by
  rw[seqIndex_neg (by omega) h3]at h1;rw[Qi,<-hl];exact QH h1
 exact PySem.W.ki_setBack ho (by omega) (by rw[Qi,<-hl];exact h3) (by omega) (by rw[hk];exact⟨_,I',q⟩)
theorem vO (i:Int) (n:Nat):max 0 (min (if i<0 then i+(n:Int) else i) (n:Int))=(((if i<0 then (i+(n:Int)).toNat else min i.toNat n):Nat):Int):=by
 by_cases h:i<0
 ·rw[Qs h,Qs h,Int.min_eq_left (by omega)];omega
 obtain⟨k,rfl⟩:=Int.eq_ofNat_of_zero_le (Int.not_lt.mp h);rw[Qq h,Qq h,Xa];omega
theorem jz (lo hi:Option Int) (n:Nat):(sliceBounds lo hi none n).1=((HT.sIx n 0 lo:Nat):Int)/\(sliceBounds lo hi none n).2.1=((HT.sIx n n hi:Nat):Int)/\(sliceBounds lo hi none n).2.2=1:=by
 refine⟨?_,?_,rfl⟩
 ·cases lo with
  | none=>simp[sliceBounds,HT.sIx]
  | some i =>
   simp only[sliceBounds,HT.sIx,Option.getD_none,show (1:Int)>0 by decide,if_true];exact vO i n
 cases hi with
 | none=>simp[sliceBounds,HT.sIx]
 | some i =>
 simp only[sliceBounds,HT.sIx,Option.getD_none,show (1:Int)>0 by decide,if_true];exact vO i n
theorem iD (its:List Value) (lo hi:Option Int):slicePick its.toArray lo hi none=((its.drop (HT.sIx its.length 0 lo)).take (HT.sIx its.length its.length hi-HT.sIx its.length 0 lo)).toArray:=by
 obtain⟨h1,h2,h3⟩:=jz lo hi its.toArray.size;unfold slicePick;rw[h1,h2,h3];simp only[sliceRange_one,pick_run,Qi] <;> rfl
def xQ (K:PySem.W.Frag):V->Option Int->Option Int->Hp->VK->Prop:=λx lo hi H Q=>∃a xs,x=.ref a/\SqL K H a xs/\∀p,H p=none->Q (.ref p) (upd H p (.lst (j4 xs lo hi)))
theorem oz:SlR X (xQ X.K):=by
 intro pins s U H x v vl vu lo hi sl Q I rx hs pl pu h;obtain⟨a,xs,rfl,hx,q⟩:=h;cases rx;obtain⟨its,r,ht,hz⟩:=I.list hx;have hlen:=r.length;refine⟨"list", _,slot_list_getitem.lookup,ht.isList.typeIs,?_⟩;refine wpAny_getItem_list_slice ht.isList hs pl pu .none (by simp) ?_ (by rw[Qi] <;> omega);rw[iD,<-hlen];refine⟨.ref s.heap.objs.size,_,I.laid (t':=s.toks) (o:=.lst (j4 xs lo hi)) (λb ob q=>Qb _ q) (Qj _) ?_,rfl,q _ (I.hok.fresh (Qj _))⟩;exact⟨QK (lY xs lo hi) hz,_,0,(r.drop (HT.sIx xs.length 0 lo)).take (HT.sIx xs.length xs.length hi-HT.sIx xs.length 0 lo),Qn _ rfl⟩
def bZ:V->Bool
 | .non=>true
 | .bl _=>true
 | .int _=>true
 | .str _=>true
 | _=>false
def eqV:V->V->Bool
 | .non,.non=>true
 | .bl a,.bl b=>a==b
 | .bl a,.int b=>(if a then 1 else 0)==b
 | .int a,.bl b=>a==(if b then 1 else 0)
 | .int a,.int b=>a==b
 | .str a,.str b=>a==b
 | _,_=>false
variable {u v:Value}
theorem tR {A:Around} {y x:V} (ry:aU y u) (rx:aU x v) (fy:bZ y=true) (fx:bZ x=true):SeqAt.EqAt A s u v (eqV y x):=by
 cases y with
 | non =>
  cases ry
  cases x with
  | non=>cases rx;exact SeqAt.EqAt.same _
  | bl b=>cases rx;exact SeqAt.EqAt.none_bool b
  | int b=>obtain⟨t,rfl⟩:=rx;exact SeqAt.EqAt.none_int b t
  | str b=>obtain⟨t,rfl⟩:=rx;exact SeqAt.EqAt.none_str b t
  | _=>exact absurd (show false=true from fx) Qp
 | bl a =>
  cases ry
  cases x with
  | non=>cases rx;exact SeqAt.EqAt.bool_none a
  | bl b=>cases rx;exact SeqAt.EqAt.bool_bool a b
  | int b=>obtain⟨t,rfl⟩:=rx;exact SeqAt.EqAt.bool_int a b t
  | str b=>obtain⟨t,rfl⟩:=rx;exact SeqAt.EqAt.bool_str a b t
  | _=>exact absurd (show false=true from fx) Qp
 | int a =>
  obtain⟨t',rfl⟩:=ry
  cases x with
  | non=>cases rx;exact SeqAt.EqAt.int_none a t'
  | bl b=>cases rx;exact SeqAt.EqAt.int_bool a t' b
  | int b=>obtain⟨t,rfl⟩:=rx;exact SeqAt.EqAt.int_int a t' b t
  | str b=>obtain⟨t,rfl⟩:=rx;exact SeqAt.EqAt.int_str a t' b t
  | _=>exact absurd (show false=true from fx) Qp
 | str a =>
  obtain⟨t',rfl⟩:=ry
  cases x with
  | non=>cases rx;exact SeqAt.EqAt.str_none a t'
  | bl b=>cases rx;exact SeqAt.EqAt.str_bool a t' b
  | int b=>obtain⟨t,rfl⟩:=rx;exact SeqAt.EqAt.str_int a t' b t
  | str b=>obtain⟨t,rfl⟩:=rx;exact SeqAt.EqAt.str_str a t' b t
  | _=>exact absurd (show false=true from fx) Qp
 | _=>exact absurd (show false=true from fy) Qp
def eqU (x:V) (u:Value):Bool:=match u with
 | .none=>eqV .non x
 | .bool b=>eqV (.bl b) x
 | .int i _=>eqV (.int i) x
 | .str z _=>eqV (.str z) x
 | _=>false
theorem tQ {x y:V} (r:aU y u) (f:bZ y=true):eqU x u=eqV y x:=by
 cases y with
 | non=>cases r;rfl
 | bl b=>cases r;rfl
 | int i=>obtain⟨t,rfl⟩:=r;rfl
 | str z=>obtain⟨t,rfl⟩:=r;rfl
 | _=>exact absurd (show false=true from f) Qp
theorem kj {x:V}:∀{xs:List V} {us:List Value},aO xs us->xs.all bZ=true->us.any (eqU x)=xs.any λy=>eqV y x
 | _,_,.nil,_=>rfl
 | y::xs,u::us,.cons r t,f=>by
  rw[List.all_cons,XJ]at f;rw[List.any_cons,List.any_cons,tQ r f.1,kj t f.2]
theorem hU {A:Around} {s:Shared} {x:V} {v:Value} (rx:aU x v) (fx:bZ x=true):∀{xs:List V} {us:List Value},aO xs us->xs.all bZ=true->∀u∈us,SeqAt.EqAt A s u v (eqU x u)
 | _,_,.nil,_=>λu hu=>by cases hu
 | y::xs,u::us,.cons r t,f=>λu' hu=>by
  rw[List.all_cons,XJ]at f;rcases Qk.mp hu with rfl|hu
  ·rw[tQ r f.1];exact tR r rx f.1 fx
  exact hU rx fx t f.2 u' hu
def inV (x:V) (xs:List V):Bool:=xs.any λy=>eqV y x
def rIn (K:PySem.W.Frag) (neg:Bool):R2:=λx y H Q=>∃p xs,y=.ref p/\(SqL K H p xs\/SqT K H p xs)/\bZ x=true/\xs.all bZ=true/\Q (.bl (if neg then !inV x xs else inV x xs)) H
theorem fJ:OpR X (compareOp .In) (rIn X.K false):=by
 intro pins s U H x y v u Q I rx ry h;obtain⟨p,xs,rfl,hq,fx,fs,q⟩:=h;cases ry;rcases hq with hq|hq
 ·obtain⟨its,r,pl,hz⟩:=I.list hq;refine SeqAt.in_listAt (eqU x) pl.isList (λw hw=>hU rx fx r fs w (by simpa using hw)) ⟨.bl _,H,I,rfl,?_⟩;rw[show its.toArray.any (eqU x)=its.any (eqU x) by simp,kj r fs];exact q
 obtain⟨its,r,pl,hz⟩:=I.tuple hq;refine SeqAt.in_tupleAt (eqU x) pl (λw hw=>hU rx fx r fs w (by simpa using hw)) ⟨.bl _,H,I,rfl,?_⟩;rw[show its.toArray.any (eqU x)=its.any (eqU x) by simp,kj r fs];exact q
theorem ay:cM X (.builtin "len") (λxs H Q=>∃p ys,xs=[.ref p]/\(SqL X.K H p ys\/SqT X.K H p ys)/\Q (.int ys.length) H):=by
 intro pins s U H xs us Q I r h;obtain⟨p,ys,rfl,hq,q⟩:=h;obtain⟨u,rfl,rx⟩:=cT r;cases rx;have hn:=fL;rcases hq with hq|hq
 ·obtain⟨its,r',pl,hz⟩:=I.list hq;have hlen:=r'.length;exact Calls.call_len_list pl.isList (by simp only[Qi] <;> omega) ⟨.int ys.length,H,I.tok _,⟨s.toks+1,by rw[Qi,hlen]⟩,q⟩
 obtain⟨its,r',pl,hz⟩:=I.tuple hq;have hlen:=r'.length;exact len_tuple pl (by simp only[Qi] <;> omega) ⟨.int ys.length,H,I.tok _,⟨s.toks+1,by rw[Qi,hlen]⟩,q⟩
theorem dM:cM X (.builtin "len") (λxs H Q=>∃z,xs=[.str z]/\z.length<=sizeLine/\Q (.int z.length) H):=by
 intro pins s U H xs us Q I r h;obtain⟨z,rfl,hz,q⟩:=h;obtain⟨u,rfl,t,rfl⟩:=cT r;have hn:=fL;exact len_str (by omega) ⟨.int z.length,H,I.tok _,⟨_,rfl⟩,q⟩
theorem dL:cM X (.type "list") (λxs H Q=>∃p ys,xs=[.ref p]/\(SqL X.K H p ys\/SqT X.K H p ys)/\∀l,H l=none->Q (.ref l) (upd H l (.lst ys))):=by
 intro pins s U H xs us Q I r h;obtain⟨p,ys,rfl,hq,q⟩:=h;obtain⟨u,rfl,rx⟩:=cT r;cases rx
 have fin:∀(its:List Value),aO ys its->ys.length<=sizeLine->∀(h':Heap) (c':Nat),(∀b o',s.heap.get? b=some o'->h'.get? b=some o') ->
   h'.get? s.heap.objs.size=some { cls:=.type "list", dict:=none,data:=.seq its.toArray c',slots:=#[] }->EP X pins U Q (.ref s.heap.objs.size) { s with heap:=h' }:=λits r' hz h' c' kp e =>
  ⟨.ref s.heap.objs.size,_,I.laid (t':=s.toks) kp (Qj _) (show a_ X.prog X.w _ h' _ (.lst ys) from⟨hz,its,c',r',e⟩),rfl,q _ (I.hok.fresh (Qj _))⟩
 rcases hq with hq|hq
 ·obtain⟨its,r',pl,hz⟩:=I.list hq;have hlen:=r'.length;obtain⟨o,ho,hc,n,hd⟩:=pl.isList;exact call_list_seq p (.inl rfl) ho hc hd (λh' c' kp e=>fin its r' hz h' c' kp e) (by simp only[Qi] <;> omega)
 obtain⟨its,r',pl,hz⟩:=I.tuple hq;have hlen:=r'.length;obtain⟨o,ho,hc,n,hd⟩:=pl;exact call_list_seq p (.inr rfl) ho hc hd (λh' c' kp e=>fin its r' hz h' c' kp e) (by simp only[Qi] <;> omega)
theorem eN:cM X (.type "tuple") (λxs H Q=>∃p ys,xs=[.ref p]/\((SqL X.K H p ys/\∀l,H l=none->Q (.ref l) (upd H l (.tup ys)))\/(SqT X.K H p ys/\Q (.ref p) H))):=by
 intro pins s U H xs us Q I r h;obtain⟨p,ys,rfl,h⟩:=h;obtain⟨u,rfl,rx⟩:=cT r;cases rx;rcases h with⟨hq,q⟩|⟨hq,q⟩
 ·obtain⟨its,r',pl,hz⟩:=I.list hq;have hlen:=r'.length;refine call_tuple_list pl.isList (λh' kp=>?_) (by simp only[Qi] <;> omega);have I1:Inv X pins U H { s with heap:=h' }:=I.kept (t':=s.toks) kp
  have I2:Inv X pins U (upd H h'.objs.size (.tup ys)) { s with heap:=h'.push { cls:=.type "tuple", data:=.seq its.toArray } } :=
   I1.laid (t':=s.toks) (λb o e=>Qb _ e) (Qj _) (show a_ X.prog X.w _ _ _ (.tup ys) from⟨hz,its,r',IsTup.new _ _⟩)
  exact⟨.ref h'.objs.size,_,I2,rfl,q _ (I1.hok.fresh (Qj _))⟩
 obtain⟨its,r',pl,hz⟩:=I.tuple hq;exact call_tuple_same pl ⟨.ref p,H,I,rfl,q⟩
def tyV (K:PySem.W.Frag) (T:String) (x:V) (H:Hp):Prop:=match x with
 | .str _=>T = "str"
 | .int _=>T = "int"
 | .ref p=>(T = "list" /\ ∃xs,SqL K H p xs)\/(T = "tuple" /\ ∃o,K.lookup p=some o/\o.cls=.type "tuple" /\ o.dict=none) \/
   (T = "dict" /\ ((∃kvs,H p=some (.dK kvs))\/∃kvs,H p=some (.dT kvs)))\/(T = "set" /\ ∃S n,H p=some (.set S n))
 | _=>False
theorem wn {U:St} {H:Hp} {T:String} {x:V} (I:Inv X pins U H s) (r:aU x v) (ty:tyV X.K T x H) :
  s.TypeIs v T/\∀a,v=.ref a->∃ob,s.heap.get? a=some ob/\ob.dict=none:=by
 cases x with
 | str z =>
  obtain⟨t,rfl⟩:=r;cases (show T = "str" from ty);exact⟨typeIs_str s z t,λ_ e=>nomatch e⟩
 | int i =>
  obtain⟨t,rfl⟩:=r;cases (show T = "int" from ty);exact⟨typeIs_int s i t,λ_ e=>nomatch e⟩
 | ref p =>
  cases r;rcases ty with⟨rfl,xs,hq⟩|⟨rfl,o,hk,hc,hd⟩|⟨rfl,hk⟩|⟨rfl,S,n,hk⟩
  ·obtain⟨its,_,pl,_⟩:=I.list hq;refine⟨pl.isList.typeIs,λa e=>?_⟩;cases e;obtain⟨o,n,e,c,hd,_⟩:=pl;exact⟨o,e,hd⟩
  ·refine⟨⟨o,I.kIn p o hk,hc⟩,λa e=>?_⟩;cases e;exact⟨o,I.kIn _ o hk,hd⟩
  ·have z:∃o,s.heap.get? p=some o/\o.ExactDict:=by
    rcases hk with⟨kvs,hk⟩|⟨kvs,hk⟩
    ·obtain⟨_,_,_,_,o,_,_,e,ex,_⟩:=I.hok p _ hk;exact⟨o,e,ex⟩
    obtain⟨_,_,_,_,o,_,_,e,ex,_⟩:=I.hok p _ hk;exact⟨o,e,ex⟩
   obtain⟨o,e,ex⟩:=z;refine⟨⟨o,e,ex.1⟩,λa e2=>?_⟩;cases e2;exact⟨o,e,ex.2.1⟩
  obtain⟨o,_,_,_,e,ex,_⟩:=I.hok p _ hk;refine⟨⟨o,e,ex.1⟩,λa e2=>?_⟩;cases e2;exact⟨o,e,ex.2.1⟩
 | _=>exact False.elim ty
def tBM (K:PySem.W.Frag) (T:String) (r:V->List V->Hp->VK->Prop) (to:TE) (t:TA):TE:=λU H Q=>to U H λx H1=>tyV K T x H1/\t U H1 λxs H2=>r x xs H2 Q
variable {o e:Expr} {es:List Expr} {to:TE} {t:TA} {name:Str} {apos cpos:Pos} {T id:String} {r:V->List V->Hp->VK->Prop}
theorem bR (pa:PlainAttrs T) (slot:Slot T name id) (hty:typeOf (.builtin id)=pure (.type "method_descriptor")) (hm:MtR X id r) (ho:PE X o to) (ha:PA X (e::es) t)
  (hbase:attributeBase o name X.env (eval o X.env)=eval o X.env:=by rfl)
  (hfew:((backTo cpos (starEach (e::es) X.env)).all (fun x=>!x.1)&&(backToKw cpos (keywordEach [] X.env)).all (fun x=>x.1.isSome)
   && decide ((e::es).length+([]:List Keyword).length+(if ([]:List Keyword).isEmpty then 0 else 1)<30))=true:=by rfl)
  (hline:(apos.endLine==cpos.line)=true:=by rfl) (hs:starEach (e::es) X.env=(false,eval e X.env)::starEach es X.env:=by rfl) (hplain:(backTo cpos (starEach es X.env)).any (·.1)=false:=by rfl) :
  PE X (.Call (.Attribute o name apos) (e::es) [] cpos) (tBM X.K T r to t):=by
 intro pins s U H Q I h;refine wpAny_Call_method_late hbase hfew hline rfl (thn (ho pins s U H _ I h) λv s1 ⟨x,H1,I1,r1,ty,q1⟩=>?_);obtain⟨h1,h2⟩:=wn I1 r1 ty;refine⟨T,id,pa,slot,hty,h1,h2,?_⟩;have hA:=ha cpos pins s1 U H1 _ I1 q1;rw[hs]at hA ⊢;refine Calls.callWith_builtin (by show (false || (backTo cpos (starEach es X.env)).any (·.1))=false;rw[hplain] <;> rfl) (Calls.evalArgs_plain ?_);exact thn hA λus s2 ⟨vs,H2,I2,r2,q2⟩=>hm pins s2 U H2 x vs v us Q I2 r1 r2 q2
end
def MtM (X:Cx) (id:String) (r:V->List V->Hp->VK->Prop):Prop :=
 ∀(pins:A1) (s:Shared) (U:St) (H:Hp) (x:V) (xs:List V) (v:Value) (us:List Value) (Q:VK),Inv X pins U H s->aU x v->aO xs us->r x xs H Q ->
  wpAny (model X.prog X.w) X.A (call (.builtin id) (v::us)) (EP X pins U Q) X.xe s
theorem aO.one:∀{x:V} {us:List Value},aO [x] us->∃u,us=[u]/\aU x u
 | _,_,.cons r .nil=>⟨_,rfl,r⟩
theorem aO.two:∀{x y:V} {us:List Value},aO [x,y] us->∃u v,us=[u,v]/\aU x u/\aU y v
 | _,_,_,.cons r (.cons q .nil)=>⟨_,_,rfl,r,q⟩
theorem aO.eraseIdx:∀{xs:List V} {us:List Value} (i:Nat),aO xs us->aO (xs.eraseIdx i) (us.eraseIdx i)
 | _,_,_,.nil=>.nil
 | _,_,0,.cons _ t=>t
 | _,_,i+1,.cons r t=>.cons r (aO.eraseIdx i t)
theorem jc {α:Type}:∀(l:List α) (i:Nat),(l.eraseIdx i).length<=l.length
 | [],_=>Qj _
 | _::_,0=>XX _
 | _::r,i+1=>Nat.succ_le_succ (jc r i)
section
variable {X:Cx} {pins:A1} {U:St} {H:Hp} {s:Shared} {l b:Addr} {xs ys zs:List V}
theorem Inv.lset {its its':List Value} {n:Nat} {f:Array Value->Array Value} {t':Nat} (I:Inv X pins U H s) (hH:H l=some (.lst xs))
  (e:s.heap.get? l=some { cls:=.type "list", data:=.seq its.toArray n }) (hf:f its.toArray=its'.toArray) (hv:aO ys its') (hz:ys.length<=sizeLine) :
  Inv X pins U (upd H l (.lst ys)) { s with heap:=s.heap.update l (Obj.mapSeq f),toks:=t' }:=by
 have q:=PySem.IsL.update e f;rw[hf]at q;refine I.write (x:=l) (e:=l) (by rw[hH];exact trivial) (.inl rfl) (λb' u hb hu=>(Xl s.heap (Obj.mapSeq f) (Ne.symm hb)).trans hu) ⟨_,q⟩ ?_;exact⟨hz,its',_,hv,q⟩
theorem Inv.lnew {its:List Value} {t':Nat} (I:Inv X pins U H s) (hv:aO ys its) (hz:ys.length<=sizeLine) :
  Inv X pins U (upd H s.heap.objs.size (.lst ys)) { s with heap:=s.heap.push { cls:=.type "list", data:=.seq its.toArray },toks:=t' } :=
 I.laid (λ_ _ q=>Qb _ q) (Qj _) ⟨hz,its,0,hv,Qn _ rfl⟩
theorem Inv.fresh (I:Inv X pins U H s):H s.heap.objs.size=none:=I.hok.fresh (Qj _)
theorem Inv.lstM (I:Inv X pins U H s) (hH:H l=some (.lst xs)):xs.length<=sizeLine/\∃(its:List Value) (n:Nat),aO xs its/\xs.length=its.length/\s.heap.get? l=some { cls:=.type "list", data:=.seq its.toArray n }:=by
 obtain⟨z,its,n,r,e⟩:=I.hok l _ hH;exact⟨z,its,n,r,r.length,e⟩
end
section
variable {X:Cx}
def oH:V->List V->Hp->VK->Prop:=λx vs H Q=>∃l xs y,x=.ref l/\vs=[y]/\H l=some (.lst xs)/\xs.length<sizeLine/\Q .non (upd H l (.lst (xs++[y])))
theorem br:MtM X "list.append" oH:=by
 intro pins s U H x vs v us Q I rx rv h;obtain⟨l,xs,y,rfl,rfl,hH,hz,q⟩:=h;cases rx;obtain⟨u,rfl,ru⟩:=rv.one;obtain⟨z,its,n,r,hl,e⟩:=I.lstM hH;refine call_meets F.slot_list_append ⟨_,e,rfl⟩ F.entry_list_append (F.args_list_append_2 _ _) (PySem.list_append l its.toArray n u (by rw[Qi];omega)) ⟨e,?_⟩;refine⟨.non,_,I.lset (its':=its++[u]) hH e (by simp) (r.append (.cons ru .nil)) ?_,rfl,q⟩;rw[Qh,QL];omega
def wE:V->List V->Hp->VK->Prop:=λx vs H Q=>∃l xs i k y,x=.ref l/\vs=[.int i]/\H l=some (.lst xs)/\-(2 ^ 63)<=i/\i<2 ^ 63/\seqIndex? i xs.length=some k/\xs[k]?=some y/\Q y (upd H l (.lst (xs.eraseIdx k)))
theorem sS:MtM X "list.pop" wE:=by
 intro pins s U H x vs v us Q I rx rv h;obtain⟨l,xs,i,k,y,rfl,rfl,hH,h1,h2,hk,hy,q⟩:=h;cases rx;obtain⟨u,rfl,ru⟩:=rv.one;obtain⟨t,rfl⟩:=ru;obtain⟨z,its,n,r,hl,e⟩:=I.lstM hH;obtain⟨w,hw,rw'⟩:=r.get hy
 refine call_meets F.slot_list_pop ⟨_,e,rfl⟩ F.entry_list_pop (F.args_list_pop_2 _ _)
  (MeetsSeq.list_pop_at l its.toArray n i t k w (fitsIndex_both h1 h2) (by rw[Qi,<-hl];exact hk) (by rw[<-QV];exact hw) (by rw[Qi];omega)) ⟨e,?_⟩
 refine⟨y,_,I.lset (its':=its.eraseIdx k) hH e ?_ (r.eraseIdx k) ?_,rw',q⟩
 ·show its.toArray.eraseIdxIfInBounds k=(its.eraseIdx k).toArray;rw[List.eraseIdxIfInBounds_toArray]
 have:=jc xs k;omega
def wJ:R2:=λx y H Q=>∃l b xs zs,x=.ref l/\y=.ref b/\H l=some (.lst xs)/\H b=some (.lst zs)/\xs.length+zs.length<=sizeLine/\∀p,H p=none->Q (.ref p) (upd H p (.lst (xs++zs)))
theorem dh:OpR X (binaryOp .Add) wJ:=by
 intro pins s U H x y v u Q I rx ry h;obtain⟨l,b,xs,zs,rfl,rfl,hH,hB,hz,q⟩:=h;cases rx;cases ry;obtain⟨z,its,n,r,hl,e⟩:=I.lstM hH;obtain⟨z2,its2,n2,r2,hl2,e2⟩:=I.lstM hB;refine PySem.P.add_list e e2 ?_ (by rw[Qi,Qi];omega);have ea:its.toArray++its2.toArray=(its++its2).toArray:=by simp
 rw[ea];exact⟨.ref _,_,I.lnew (t':=s.toks) (r.append r2) (by rw[Qh];omega),rfl,q _ I.fresh⟩
end
section
variable {prog:Program} {w:World} {A:Around} {E:A0} {s:Shared}
end
section
variable {X:Cx}
end
section
variable {κ:Type} [DecidableEq κ]
def bC (kvs:List (κ × V)) (k:κ):Option V:=(kvs.find? λkv=>decide (kv.1=k)).map (·.2)
def bI (kvs:List (κ × V)) (k:κ) (v:V):List (κ × V) :=
 if (kvs.any λkv=>decide (kv.1=k))=true then kvs.map (λkv=>if kv.1=k then (kv.1,v) else kv) else kvs++[(k,v)]
variable {r kvs:List (κ × V)}
theorem bE {p:κ × V} {k:κ} (e:p.1=k):bC (p::r) k=some p.2:=by simp[bC,List.find?_cons,e]
theorem bF {p:κ × V} {k:κ} (e:¬p.1=k):bC (p::r) k=bC r k:=by simp[bC,List.find?_cons,e]
theorem cG (k:κ):∀kvs:List (κ × V),(kvs.any λkv=>decide (kv.1=k))=(bC kvs k).isSome
 | []=>rfl
 | p::r=>by
  rw[List.any_cons];by_cases e:p.1=k
  ·simp only[bE e,QA e,Bool.true_or,Option.isSome_some]
  rw[bF e,Qy e,Bool.false_or];exact cG k r
theorem kH (k j:κ) (y:V):∀kvs:List (κ × V),bC (kvs.map λkv=>if kv.1=k then (kv.1,y) else kv) j=(bC kvs j).map λx=>if j=k then y else x
 | []=>rfl
 | p::r=>by
  have ih:=kH k j y r;rw[Qt];by_cases h:p.1=k
  ·rw[Qs h];by_cases e:p.1=j
   ·rw[bE (p:=(p.1,y)) e,bE e,Option.map_some,Qs (e.symm.trans h)]
   rw[bF (p:=(p.1,y)) e,bF e,ih]
  rw[Qq h];by_cases e:p.1=j
  ·rw[bE (p:=p) e,bE e,Option.map_some,Qq (λz=>h (e.trans z))]
  rw[bF (p:=p) e,bF e,ih]
theorem iO (k j:κ) (y:V):∀kvs:List (κ × V),bC kvs k=none->bC (kvs++[(k,y)]) j=if j=k then some y else bC kvs j
 | [],_=>by
  by_cases e:k=j
  ·rw[Qs e.symm];exact bE (p:=(k,y)) e
  rw[Qq (λz=>e z.symm)];exact bF (p:=(k,y)) e
 | p::r,hn=>by
  rw[List.cons_append];have hk:¬p.1=k:=λz=>by rw[bE z]at hn;cases hn
  rw[bF hk]at hn;have ih:=iO k j y r hn;by_cases e:p.1=j
  ·rw[bE e,bE e,Qq (λz=>hk (e.trans z))]
  rw[bF e,bF e,ih]
theorem fb (kvs:List (κ × V)) (k j:κ) (y:V):bC (bI kvs k y) j=if j=k then some y else bC kvs j:=by
 unfold bI;by_cases a:(kvs.any λkv=>decide (kv.1=k))=true
 ·rw[Qs a,kH];rw[cG]at a;by_cases e:j=k
  ·obtain⟨x,hx⟩:=Option.isSome_iff_exists.mp a;rw[Qs e,e,hx,Option.map_some,Qs rfl]
  rw[Qq e]
  cases bC kvs j with
  | none=>rfl
  | some x=>rw[Option.map_some,Qq e]
 rw[Qq a];refine iO k j y kvs ?_;rw[cG]at a
 cases q:bC kvs k with
 | none=>rfl
 | some x=>rw[q]at a;exact(a rfl).elim
theorem bX (kvs:List (κ × V)) (k:κ) (v:V):(bI kvs k v).length<=kvs.length+1:=by
 unfold bI
 split
 ·rw[Qc];omega
 rw[Qh,Xh,List.length_nil];omega
theorem rV {k:κ} (v:V) (h:bC kvs k=none):bI kvs k v=kvs++[(k,v)]:=by
 unfold bI;rw[cG,h];exact Qq (by decide)
theorem fU.isSome_eq {o:Option V} {u:Option Value} (r:fU o u):o.isSome=u.isSome:=by
 cases o with
 | none=>cases u with
  | none=>rfl
  | some _=>exact(show False from r).elim
 | some _=>cases u with
  | none=>exact(show False from r).elim
  | some _=>rfl
variable {vs:List (κ × Value)}
theorem KV.val (r:KV kvs vs) (k:κ):fU (bC kvs k) (valueAt vs k):=by
 unfold KV at r
 induction r with
 | nil=>exact True.intro
 | @cons p q ps qs h t ih =>
 obtain⟨h1,h2⟩:=h;by_cases e:p.1=k
 ·have e':q.1=k:=h1.symm.trans e;have b:valueAt (q::qs) k=some q.2:=by simp[valueAt,List.find?_cons,e']
  rw[bE e,b];exact h2
 have e':¬q.1=k:=λz=>e (h1.trans z);have b:valueAt (q::qs) k=valueAt qs k:=by simp[valueAt,List.find?_cons,e']
 rw[bF e,b];exact ih
theorem KV.any (r:KV kvs vs) (k:κ):(kvs.any λkv=>decide (kv.1=k))=vs.any λkv=>decide (kv.1=k):=by
 unfold KV at r
 induction r with
 | nil=>rfl
 | cons h t ih=>rw[List.any_cons,List.any_cons,ih,h.1]
theorem KV.repl (r:KV kvs vs) (k:κ) {y:V} {u:Value} (ry:aU y u) :
  KV (kvs.map λkv=>if kv.1=k then (kv.1,y) else kv) (vs.map λkv=>if kv.1=k then (kv.1,u) else kv):=by
 unfold KV at r ⊢
 induction r with
 | nil=>exact .nil
 | @cons p q ps qs h t ih =>
 rw[Qt,Qt];refine .cons ?_ ih;obtain⟨h1,h2⟩:=h;by_cases e:p.1=k
 ·rw[Qs e,Qs (h1.symm.trans e)];exact⟨h1,ry⟩
 rw[Qq e,Qq (λz=>e (h1.trans z))];exact⟨h1,h2⟩
theorem KV.put (r:KV kvs vs) (k:κ) {y:V} {u:Value} (ry:aU y u):KV (bI kvs k y) (stored vs k u):=by
 unfold bI stored;rw[r.any k];by_cases e:(vs.any λkv=>decide (kv.1=k))=true
 ·rw[Qs e,Qs e];exact r.repl k ry
 rw[Qq e,Qq e];exact Paired.snoc r ⟨rfl,ry⟩
theorem KV.length (r:KV kvs vs):kvs.length=vs.length:=Xo r
end
variable {u:Value}
theorem lP {P:Program} {w:World} {k:Key} (r:aU (kV k) u):(az P w).is k u=true:=by
 cases k with
 | inl i=>obtain⟨t,e⟩:=(show ∃t,u=Value.int i t from r);subst e;exact lF P w i t
 | inr x=>obtain⟨t,e⟩:=(show ∃t,u=Value.str x t from r);subst e;exact fY P w x t
theorem tq {a b:Key} (e:kV a=kV b):a=b:=by
 cases a with
 | inl i=>cases b with
  | inl j=>have e':V.int i=V.int j:=e;injection e' with e';rw[e']
  | inr y=>exact nomatch (show V.int i=V.str y from e)
 | inr x=>cases b with
  | inl j=>exact nomatch (show V.str x=V.int j from e)
  | inr y=>have e':V.str x=V.str y:=e;injection e' with e';rw[e']
theorem jQ:∀{a b:List Key},a.map kV=b.map kV->a=b
 | [],[],_=>rfl
 | [],_::_,e=>by simp at e
 | _::_,[],e=>by simp at e
 | x::xs,y::ys,e=>by
  rw[Qt,Qt]at e;injection e with e1 e2;rw[tq e1,jQ e2]
theorem jf {P:Program} {w:World}:∀{ks:List Key} {us:List Value},aO (ks.map kV) us->ItemsAre (az P w) ks us
 | [],_,r=>by rw[List.map_nil]at r;cases r;exact .nil
 | k::ks,_,r=>by
  rw[Qt]at r
  cases r with
  | cons h t=>exact .cons (lP h) (jf t)
abbrev KT (H:Hp):List (ax × V)->List (ax × Addr × Value)->Prop:=Paired λp q=>p.1=q.1/\bH H p.1 q.2.1/\aU p.2 q.2.2
variable {xs:List (ax × Addr × Value)} {kvs:List (ax × V)} {H H':Hp}
theorem KT.val (r:KT H kvs xs) (k:ax):fU (bC kvs k) ((atKey xs k).map (·.2)):=by
 induction r with
 | nil=>exact True.intro
 | @cons p q ps qs h t ih =>
 obtain⟨h1,_,h2⟩:=h;by_cases e:p.1=k
 ·have e':q.1=k:=h1.symm.trans e;have b:atKey (q::qs) k=some q.2:=by simp[atKey,List.find?_cons,e']
  rw[bE e,b];exact h2
 have e':¬q.1=k:=λz=>e (h1.trans z);have b:atKey (q::qs) k=atKey qs k:=by simp[atKey,List.find?_cons,e']
 rw[bF e,b];exact ih
theorem KT.repl (r:KT H kvs xs) (k:ax) {y:V} (ry:aU y u) :
  KT H (kvs.map λkv=>if kv.1=k then (kv.1,y) else kv) (xs.map (putAt k u)):=by
 induction r with
 | nil=>exact .nil
 | @cons p q ps qs h t ih =>
 rw[Qt,Qt];refine .cons ?_ ih;obtain⟨h1,h2,h3⟩:=h;unfold putAt;by_cases e:p.1=k
 ·rw[Qs e,Qs (h1.symm.trans e)];exact⟨h1,h2,ry⟩
 rw[Qq e,Qq (λz=>e (h1.trans z))];exact⟨h1,h2,h3⟩
variable {b a:Addr}
theorem KT.put (r:KT H kvs xs) (k:ax) {y:V} (hb:bH H k b) (ry:aU y u) :
  KT H (bI kvs k y) (storedH xs k b u):=by
 have e:(kvs.any λkv=>decide (kv.1=k))=(atKey xs k).isSome:=by
  rw[cG,(r.val k).isSome_eq,Option.isSome_map]
 unfold bI storedH;rw[e];by_cases q:(atKey xs k).isSome=true
 ·rw[Qs q,Qs q];exact r.repl k ry
 rw[Qq q,Qq q];exact Paired.snoc r ⟨rfl,hb,ry⟩
theorem KT.keeps (r:KT H kvs xs) (ht:∀b ys,H b=some (.tup ys)->H' b=some (.tup ys)):KT H' kvs xs :=
 Paired.mapP r λ_ _ z=>⟨z.1,z.2.1.keeps ht,z.2.2⟩
section
variable {P:Program} {w:World} {H:Hp} {h:Heap} {a:Addr}
theorem rQ {u:HO} (ok:HOk P w H h) (e:Rd H a u):a_ P w H h a u:=e.ok ok
variable {kvs:List (Key × V)}
theorem pG (ok:HOk P w H h) (e:Rd H a (.dK kvs)):kvs.length<=sizeLine/\(a==sysModules)=false/\∃vs,KV kvs vs/\h.DictOf (az P w) a vs :=
 show a_ P w H h a (.dK kvs) from rQ ok e
theorem yz (ok:HOk P w H h) (e:H a=some (.dK kvs)):kvs.length<=sizeLine/\(a==sysModules)=false/\∃vs,KV kvs vs/\h.DictOf (az P w) a vs:=pG ok (.inl e)
theorem lN (ok:HOk P w H h):∀{ks:ax} {vs:List V} {its:List Value},Paired (KIt H) ks vs->aO vs its->TK.Its (az P w) h ks its
 | _,_,_,.nil,.nil=>.nil
 | k::_,_,_,.cons q t,.cons rv r=>.cons (by
   cases k with
   | inl k=>cases q;exact lP rv
   | inr ks =>
   obtain⟨c,rfl,q⟩:=q;obtain⟨_,its,r,o,h1,h2,n,h3⟩:=(show a_ P w H h c (.tup (ks.map kV)) from ok c _ q)
   exact⟨c,rv,o,its.toArray,n,h1,h2,h3,by simpa using jf r⟩) (lN ok t r)
theorem dH {ks:ax} (ok:HOk P w H h) (e:bH H ks a):(bg P w).is h ks a:=by
 obtain⟨vs,e,pr⟩:=e;obtain⟨_,its,r,o,h1,h2,n,h3⟩:=(show a_ P w H h a (.tup vs) from ok a _ e);exact⟨o,its.toArray,n,h1,h2,h3,by simpa using lN ok pr r⟩
theorem pF {kvs:List (ax × V)} (ok:HOk P w H h) (e:Rd H a (.dT kvs)):kvs.length<=sizeLine/\(a==sysModules)=false /\
  ∃xs,KT H kvs xs/\h.DictOfH (bg P w) a xs:=by
 obtain⟨z,y,xs,r,o,es,ep,h1,h2,h3,h4,h5⟩:=(show a_ P w H h a (.dT kvs) from rQ ok e);refine⟨z,y,xs,r,o,es,ep,h1,h2,h3,h4,λx hx=>?_,h5⟩
 have all:∀{l:List (ax × V)} {m:List (ax × Addr × Value)},KT H l m->∀x∈m,(bg P w).is h x.1 x.2.1:=by
  intro l m q
  induction q with
  | nil=>intro x hx;exact nomatch hx
  | @cons p q ps qs hq t ih =>
  intro x hx;rcases Qk.mp hx with e|hx
  ·subst e;exact dH ok (by rw[<-hq.1];exact hq.2.1)
  exact ih x hx
 exact all r x hx
theorem wa {kvs:List (ax × V)} (ok:HOk P w H h) (e:H a=some (.dT kvs)):kvs.length<=sizeLine/\(a==sysModules)=false /\
  ∃xs,KT H kvs xs/\h.DictOfH (bg P w) a xs:=pF ok (.inl e)
end
def dj (H:Hp) (a:Addr) (y:V) (r:Option V):Prop :=
 (∃kvs k,Rd H a (.dK kvs)/\y=kV k/\r=bC kvs k)\/∃kvs k b,Rd H a (.dT kvs)/\y=.ref b/\bH H k b/\r=bC kvs k
def iM (H:Hp) (a:Addr) (y v:V) (H':Hp):Prop :=
 (∃kvs k,H a=some (.dK kvs)/\y=kV k/\kvs.length<sizeLine/\H'=upd H a (.dK (bI kvs k v))) \/
 ∃kvs k b,H a=some (.dT kvs)/\y=.ref b/\bH H k b/\kvs.length<sizeLine/\H'=upd H a (.dT (bI kvs k v))
theorem dj.k {H:Hp} {a:Addr} {kvs:List (Key × V)} {k:Key} (e:H a=some (.dK kvs)):dj H a (kV k) (bC kvs k):=.inl ⟨kvs,k,.inl e,rfl,rfl⟩
theorem dj.t {k:ax} (e:H a=some (.dT kvs)) (eb:bH H k b):dj H a (.ref b) (bC kvs k):=.inr ⟨kvs,k,b,.inl e,rfl,eb,rfl⟩
theorem iM.t {k:ax} {v:V} (e:H a=some (.dT kvs)) (eb:bH H k b) (hl:kvs.length<sizeLine) :
  iM H a (.ref b) v (upd H a (.dT (bI kvs k v))):=.inr ⟨kvs,k,b,e,rfl,eb,hl,rfl⟩
section
variable {X:Cx} {pins:A1} {U:St} {H:Hp} {s:Shared} {a:Addr} {y v:V} {u r:Value} {o:Option V} {A:Around} {E:A0}
theorem Inv.big (I:Inv X pins U H s):sysModules<s.heap.objs.size:=by
 have h:mainGlobals<s.heap.objs.size:=(I.mod.glob.keeps I.bk).lt;exact Nat.lt_trans (by decide) h
variable {Q:A0}
theorem qW (hu:A.units+8<cLine) (I:Inv X pins U H s) (g:dj H a y (some v)) (ry:aU y u) (h:∀w' s',Inv X pins U H s'->aU v w'->Q w' s') :
  wpAny (model X.prog X.w) A (getItem (.ref a) u) Q E s:=by
 rcases g with⟨kvs,k,e,ey,l⟩|⟨kvs,k,b,e,ey,eb,l⟩
 ·subst ey;obtain⟨z,hd,vs,rel,dd⟩:=pG I.hok e;obtain⟨w',hw,rw'⟩:=fU.some_of (v:=v) (o:=valueAt vs k) (by rw[l];exact rel.val k);exact wpAny_getItem_of (lP ry) dd.mapOf hw (h w' _ (I.tok _) rw')
 subst ey;cases (show u=Value.ref b from ry);obtain⟨z,hd,xs,rel,dd⟩:=pF I.hok e;obtain⟨w',hw,rw'⟩:=fU.some_of (v:=v) (o:=(atKey xs k).map (·.2)) (by rw[l];exact rel.val k);obtain⟨p,hp,hp2⟩:=XD.mp hw;refine wpAny_getItem_heap (jy hu) (dH I.hok eb) dd hp ?_;rw[hp2];exact h w' _ (I.tok _) rw'
theorem vd (hu:A.units+8<cLine) (I:Inv X pins U H s) (g:dj H a y o) (ry:aU y u) (h:∀s',Inv X pins U H s'->Q (.bool (!o.isSome)) s') :
  wpAny (model X.prog X.w) A (compareOp .NotIn u (.ref a)) Q E s:=by
 rcases g with⟨kvs,k,e,ey,l⟩|⟨kvs,k,b,e,ey,eb,l⟩
 ·subst ey;obtain⟨z,hd,vs,rel,dd⟩:=pG I.hok e;refine wpAny_notIn_of (lP ry) hd dd.mapOf ?_;rw[<-(rel.val k).isSome_eq,<-l];exact h _ (I.tok _)
 subst ey;cases (show u=Value.ref b from ry);obtain⟨z,hd,xs,rel,dd⟩:=pF I.hok e;refine wpAny_notIn_heap (jy hu) (dH I.hok eb) hd dd ?_;have q:=(rel.val k).isSome_eq;rw[Option.isSome_map]at q;rw[<-q,<-l];exact h _ (I.tok _)
theorem j3 {h':Heap} {t':Nat} {ob:HO} (I:Inv X pins U H s) (mu:Mut (H a)) (hs:Heap.SameBut a s.heap h') (he:∃q,h'.get? a=some q) (new:a_ X.prog X.w (upd H a ob) h' a ob) :
  Inv X pins U (upd H a ob) { s with heap:=h',toks:=t' } :=
 I.write (x:=a) (e:=a) mu (.inl rfl) (λb q hb z=>(hs.2 b hb).trans z) he new
theorem xu {P:Program} {w:World} {H':Hp} {h':Heap} {kvs:List (Key × V)} {vs:List (Key × Value)} (z:kvs.length<=sizeLine) (hd:(a==sysModules)=false) (rel:KV kvs vs) (dd:h'.DictOf (az P w) a vs) :
  a_ P w H' h' a (.dK kvs):=⟨z,hd,vs,rel,dd⟩
theorem qV {H':Hp} {Q:Unit->Shared->Prop} (hu:A.units+8<cLine) (I:Inv X pins U H s) (g:iM H a y v H') (ry:aU y u) (rv:aU v r) (h:∀s',Inv X pins U H' s'->Q () s') :
  wpAny (model X.prog X.w) A (setItem (.ref a) u r) Q E s:=by
 rcases g with⟨kvs,k,e,ey,l,eH⟩|⟨kvs,k,b,e,ey,eb,l,eH⟩
 ·subst ey eH;obtain⟨z,hd,vs,rel,dd⟩:=yz I.hok e;have hz:vs.length<=sizeLine:=by rw[<-rel.length];exact z
  have hl:(bI kvs k v).length<=sizeLine:=by have:=bX kvs k v;omega
  refine wpAny_setItem_pairs (hsz:=hz) (lP ry) dd λh' dd' hs=>h _ ?_;have he:∃q,h'.get? a=some q:=let ⟨q,_,_,hq,_⟩:=dd';⟨q,hq⟩;exact j3 I (by rw[e];exact True.intro) hs he (xu hl hd (rel.put k rv) dd')
 subst ey eH;cases (show u=Value.ref b from ry);obtain⟨z,hd,xs,rel,dd⟩:=wa I.hok e;have hz:xs.length<=sizeLine:=by rw[<-Xo rel];exact z
 have hl:(bI kvs k v).length<=sizeLine:=by have:=bX kvs k v;omega
 refine wpAny_setItem_heap (hsz:=hz) (jy hu) (dH I.hok eb) dd λh' dd' hs=>h _ ?_;obtain⟨q,es,ep,hq,h2,h3,h4,_,h5⟩:=dd';refine j3 I (by rw[e];exact True.intro) hs ⟨q,hq⟩ ⟨hl,hd,_,(rel.put k eb rv).keeps λc ys ec=>?_,q,es,ep,hq,h2,h3,h4,h5⟩;rw[aq (vU ec e (λz=>nomatch z))];exact ec
end
section
variable {X:Cx} {pins:A1} {U:St} {H:Hp} {s:Shared} {a:Addr} {kvs:List (Key × V)} {k:Key} {u:Value} {A:Around} {E:A0}
end
def yD (i:Expr):Prop:=∀ov iv,subscripted i false ov iv=operate [ov,iv] (getItem ov iv)
variable {Q E:A0}
theorem ug {prog:Program} {w:World} {A:Around} {s:Shared} {env:Env} {value slice:Expr} {pos:Pos} {T id:String}
  (hl:typeLookup (.type T) "__getitem__" = pure (some (.builtin id))) (hs:yD slice)
  (h:wpAny (model prog w) A (eval value env) (λo s₁=>wpAny (model prog w) A (eval slice env) (λi s₂=>s₂.TypeIs o T/\wpAny (model prog w) A (getItem o i) Q E s₂) E s₁) E s) :
  wpAny (model prog w) A (eval (.Subscript value slice pos) env) Q E s:=by
 refine Subscript_ (XV h (λo s₁ h₁=>XV h₁ (λi s₂ h₂=>?_) λ_ _ x=>x) λ_ _ x=>x);obtain⟨hT,h₂⟩:=h₂;unfold subscriptTail;refine Qa ?_;rw[getitemInPython_of_ne hT.not_modules];refine Qa (wpAny_specialOf hT hl ?_)
 have fin:wpAny (model prog w) A (subscripted slice false o i) (λr s₃=>wpAny (model prog w) A (letTemporaryGo value o r >>= λ_=>pure r) Q E s₃) E s₂:=by
  rw[hs o i];exact wpAny_operating (XV h₂ (λr s₃ h₃=>Qa (wpAny_letTemporaryGo (Qe h₃))) λ_ _ x=>x)
 first
  | exact Qe (Qa fin)
  | exact Qa (Qe (Qa fin))
  | exact Qa fin
theorem lX {X:Cx} {pins:A1} {U:St} {s:Shared} {y:V} {o:Option V} (I:Inv X pins U H s) (g:dj H a y o):s.TypeIs (.ref a) "dict" := by
 rcases g with⟨kvs,k,e,_,_⟩|⟨kvs,k,b,e,_,_,_⟩
 ·obtain⟨_,_,vs,_,dd⟩:=pG I.hok e;exact dd.typeIs
 obtain⟨_,_,xs,_,dd⟩:=pF I.hok e;exact dd.typeIs
def rz (td ty:TE):TE:=λU H Q=>td U H λx H1=>ty U H1 λy H2=>∃a v,x=.ref a/\dj H2 a y (some v)/\Q v H2
def nY (ty td:TE):TE:=λU H Q=>ty U H λy H1=>td U H1 λx H2=>∃a o,x=.ref a/\dj H2 a y o/\Q (.bl (!o.isSome)) H2
def vP (td ty tv:TE):TS:=λD U H=>tv U H λv H1=>td U H1 λx H2=>ty U H2 λy H3=>∃a H4,x=.ref a/\iM H3 a y v H4/\D.nx U H4
section
variable {X:Cx} {o i e value:Expr} {pos pos' tpos:Pos} {td ty tv:TE}
theorem bU (hu:X.A.units+8<cLine) (ho:PE X o td) (hi:PE X i ty) (hs:yD i:=by exact λ_ _=>rfl):PE X (.Subscript o i pos) (rz td ty):=by
 intro pins s U H Q I h;refine ug PySem.F.slot_dict_getitem.lookup hs (thn (ho pins s U H _ I h) λu s1 ⟨x,H1,I1,rx,q1⟩=>thn (hi pins s1 U H1 _ I1 q1) λiv s2 ⟨y,H2,I2,ry,a,v,ex,g,q2⟩=>?_);subst ex;obtain rfl:u=Value.ref a:=rx;exact⟨lX I2 g,qW hu I2 g ry λw' s3 I3 rw'=>⟨v,H2,I3,rw',q2⟩⟩
theorem qj (hu:X.A.units+8<cLine) (hi:PE X i ty) (ho:PE X o td):PC X .NotIn i o (nY ty td):=by
 intro pins s U H Q I h;refine thn (hi pins s U H _ I h) λiv s1 ⟨y,H1,I1,ry,q1⟩=>thn (ho pins s1 U H1 _ I1 q1) λu s2 ⟨x,H2,I2,rx,a,ov,ex,g,q2⟩=>?_;subst ex;obtain rfl:u=Value.ref a:=rx;exact vd hu I2 g ry λs3 I3=>⟨.bl (!ov.isSome),H2,I3,rfl,q2⟩
theorem fg (hu:X.A.units+8<cLine) (ho:PE X o td) (hi:PE X i ty) (hv:PE X value tv) (hs:swapsWith value (some (.Subscript o i pos')) pos.line X.env=pure false) :
  PS X (.Assign [.Subscript o i pos'] value pos) (vP td ty tv):=by
 intro pins s U H D I h;refine wpAny_Assign_Subscript (thn (hv pins s U H _ I h) λr s1 ⟨v,H1,I1,rv,q1⟩=>thn (ho pins s1 U H1 _ I1 q1) λu s2 ⟨x,H2,I2,rx,q2⟩=>thn (hi pins s2 U H2 _ I2 q2) λiv s3 ⟨y,H3,I3,ry,a,H4,ex,g,q3⟩=>?_) hs;subst ex;obtain rfl:u=Value.ref a:=rx;exact qV hu I3 g ry rv λs4 I4=>⟨U,H4,I4,q3⟩
end
theorem lW {P:Program} {w:World} (h:Heap) (hb:sysModules<h.objs.size):a_ P w H (h.push { cls:=.type "dict", data:=.dict #[] }) h.objs.size (.dT []) :=
 ⟨QU _,beq_eq_false_iff_ne.mpr (Ne.symm (QF hb)),[],.nil,_,#[],0,Qn _ rfl,⟨rfl,rfl,rfl⟩,rfl,rfl,List.nodup_nil⟩
def wz:TE:=λ_ H Q=>∀p,H p=none->Q (.ref p) (upd H p (.dT []))
section
variable {X:Cx} {pos:Pos}
theorem si:PE X (.Dict [] [] pos) wz:=λpins s U H Q I h =>
 wpAny_Dict_empty ⟨.ref s.heap.objs.size,_,I.laid (a:=s.heap.objs.size) (o:=.dT []) (t':=s.toks) (λ_ _ q=>Qb _ q) (Qj _) (lW s.heap I.big),rfl,h _ (I.hok.fresh (Qj _))⟩
end
structure M1 (X:Cx) (o:Expr) (m:Str) (apos:Pos) (e:Expr) (cpos:Pos):Prop where
 base:attributeBase o m X.env (eval o X.env)=eval o X.env
 few:((backTo cpos (starEach [e] X.env)).all (λx=>!x.1)&&(backToKw cpos (keywordEach [] X.env)).all (λx=>x.1.isSome)
  && decide (([e]:List Expr).length+([]:List Keyword).length+(if ([]:List Keyword).isEmpty then 0 else 1)<30))=true
 line:(apos.endLine==cpos.line)=true
 trees:backTo cpos (starEach [e] X.env)=[(false,eval e X.env)]
structure M2 (X:Cx) (o:Expr) (m:Str) (apos:Pos) (e f:Expr) (cpos:Pos):Prop where
 base:attributeBase o m X.env (eval o X.env)=eval o X.env
 few:((backTo cpos (starEach [e,f] X.env)).all (λx=>!x.1)&&(backToKw cpos (keywordEach [] X.env)).all (λx=>x.1.isSome)
  && decide (([e,f]:List Expr).length+([]:List Keyword).length+(if ([]:List Keyword).isEmpty then 0 else 1)<30))=true
 line:(apos.endLine==cpos.line)=true
 trees:backTo cpos (starEach [e,f] X.env)=[(false,eval e X.env),(false,eval f X.env)]
section
variable {X:Cx} {pins:A1} {U:St} {H:Hp} {s:Shared} {a:Addr} {y d:V} {u r:Value} {o:Option V} {A:Around} {E:A0}
end
section
variable {X:Cx} {o e f:Expr} {apos cpos:Pos} {td ty tx:TE}
end
section
variable {X:Cx} {pins:A1} {U:St} {H:Hp} {s:Shared} {a:Addr} {kvs:List (Key × V)} {A:Around} {E:A0}
end
section
variable {X:Cx} {pins:A1} {U:St} {H:Hp} {s:Shared} {a:Addr} {y:V} {u:Value} {A:Around} {E:A0}
end
end L2
namespace Att
open PySem PySem.W PySem.Calls PyProof.Rows
theorem ge {P:Params} {h:Heap}:∀(ns:List Int) (vs:List Value),WellAll P h vs (ns.map WData.int)->IntsAre vs ns:=by
 intro ns
 induction ns with
 | nil =>
  intro vs w;rw[List.map_nil]at w;cases w;exact .nil
 | cons n ns ih =>
 intro vs w;rw[Qt]at w
 cases w with
 | cons a b =>
 cases a;exact .cons _ _ (ih _ b)
theorem pZ {l:OpenLaw} {n:Nat} (hn:l.most=some n) {P:Params} {h:Heap} {args:List WData} {vals:List Value}
  (hpre:l.row.toRowW.claim.pre args=true) (hwl:WellAll P h vals args) :
  ∃a vs ns,vals=[Value.ref a]/\args=[WData.list (ns.map WData.int)]/\h.get? a=some { cls:=.type "list", data:=.seq vs.toArray }/\IntsAre vs ns/\ns.length<=n:=by
 have hsh:WShape.hasAll [] args [.list .int]=true:=(pre_splitW hpre).1;have hc:l.pre.holds [] { args:=args }=true:=(pre_splitW hpre).2;obtain⟨d,r,rfl,h1,h2⟩:=hasAllW_cons hsh;obtain rfl:=hasAllW_nil h2;obtain⟨xs,rfl,h3⟩:=hasW_list h1;obtain⟨ns,rfl⟩:=items_int h3
 have hlen:ns.length<=n:=by
  unfold OpenLaw.pre at hc
  have h4:(WTm.not (.lt (.lit (.int (n:Int))) (.len (.arg 0)))).holds [] { args:=[.list (ns.map .int)] }=true:=by
   have h4:=(holds_andW hc).1;rw[hn]at h4;exact h4
  have h5:=condW_of h4 (w_not (w_lt w_lit (w_len_list (w_arg rfl))));rw[Qc]at h5;refine Nat.le_of_not_lt λq=>?_;have q':(n:Int)<((ns.length:Nat):Int):=by omega
  first
   | (rw[QA q']at h5;exact absurd h5 (by decide))
   | (simp at h5;omega)
 cases hwl with
 | cons w1 w2 =>
 cases w2
 cases w1 with
 | list ho hall=>exact⟨_,_,ns,rfl,rfl,ho,ge ns _ hall,hlen⟩
theorem qg (l:OpenLaw) (args:List WData):l.row.toRowW.claim.post args (.bool true) args=true :=
 postW_of (r:=l.row.toRowW) (X:=(true==true))
  (show WShape.has [] (.bool true) .bool=true by first|rfl|decide|simp[WShape.has,WShape.arms,WShape.armsAll])
  (show (WTm.eq .res (.lit (.bool true))).value [] { args:=args,res:=some (.bool true),after:=args }=some (.bool (true==true)) from w_eq_bool (w_res rfl) w_lit) rfl
theorem mh {l:OpenLaw} {n:Nat} {q:Program} {loose:List Str} {XP:A2->Heap->Prop} {YP:World->Heap->Prop} {d:DefRec}
  (hn:l.most=some n) (hdf:d.params.defaults=[])
  (call:∀(w:World) (s₀ s₁:Shared) (mg mb:A2) (fa:Addr) (o:Obj) (pm cd doc:Value) (a:Addr) (vs:List Value) (ns:List Int),
   Ground q loose [] XP w s₀ mg mb s₁.heap->YP w s₁.heap ->
   s₁.heap.get? fa=some o->o.data=.func (docDef d.name d.params d.body d.scope pm cd doc)->s₁.heap.CodeRec cd d.name->mg d.name=some (.ref fa) ->
   s₁.heap.get? a=some { cls:=.type "list", data:=.seq vs.toArray }->IntsAre vs ns->ns.length<=n->s₁.gens=#[] ->
   codeAny (model l.prog w) callerA (.call (.ref fa) ⟨[.ref a],[]⟩) (λr s'=>r=.ok (.ret (.bool true))/\OldK s₁.heap s'.heap/\s'.os=s₁.os/\AllBare s'.gens) s₁) :
  WalkO q loose XP YP l.row.toRowW d [] (λf vs=>PySem.call f vs):=by
 intro w s₀ s₁ mg mb G Y fa o pm cd doc dV kV ho hd hcd hD hmg hg args vals as hpre hlay hrd hwl hlo;obtain rfl:dV=.none:=Dflts.none hD hdf;obtain rfl:kV=.none:=Dflts.noKw hD;obtain⟨a,vs,ns,rfl,rfl,hobj,hints,hlen⟩:=pZ hn hpre hwl;refine enter_call (codeAny_mono (call w s₀ s₁ mg mb fa o pm cd doc a vs ns G Y ho (fd_plain hd) hcd hmg hobj hints hlen hg) λr s' hq=>?_);obtain⟨rfl,h2,h3,h4⟩:=hq;exact⟨.inl ⟨.bool true,.bool true,[],rfl,λ_=>rfl,.bool true,qg l _,λ_=>⟨List.Pairwise.nil,λ_ hm=>(nomatch hm)⟩⟩,h2,h3,h4⟩
section
variable {prog:Program} {w:World} {A:Around} {E:A0} {s:Shared} {K:Frag}
end
end Att
namespace L2
open PySem PySem.Spec PyProof.Rows
theorem iN:∀{vs:List Value} {ns:List Int},IntsAre vs ns->aO (ns.map V.int) vs
 | _,_,.nil=>.nil
 | _,_,.cons n t h=>.cons ⟨t,rfl⟩ (iN h)
end L2
/- THE LAST THEOREM (shape;LID,My.* are yours):
  My.Adr: a structure of the addresses that your layer names (classes,functions);My.Txt K t: a structure (Prop) of the equations over K;
  My.txt_mk:{K} {implicit addresses ..} (e1:nsIn K mainGlobals "law" = some (some (.ref f))) (e2:K.lookup f=some ⟨oc,od,.func (fnOf "law" "law" params body scope dV kV doc pm an cdv ct),sl⟩) (e3:codeIn K cdv "law" = true) ..:∃t,My.Txt K t
(the tactic k_is has no namespace: write k_is) -/
namespace L2
open PySem PySem.Spec PyProof.Rows
abbrev CX0:CXT:=λ_ _ _ _ _ _=>False
abbrev E0:XK:=λ_ _ _=>False
variable {X:Cx}
theorem xU:kw CX0 X E0:=λ_ _ _ _ _ _ _ h=>h.elim
structure Fun (K:PySem.W.Frag) (x qual:Str) (st:Stmt) (f:Addr) (fd:FuncData):Prop where
 ex:∃(oc:Value) (od:Option Addr) (kV doc pm:Value) (an:Option Addr) (cdv ct:Value) (osl:Array (Option Value)),
  fd=PySem.W.fnOf x qual (cF st) (bV st) (av st) .none kV doc pm an cdv ct/\K.lookup f=some ⟨oc,od,.func fd,osl⟩/\PySem.W.codeIn K cdv qual=true
 kp:PySem.W.keepIn K (.ref f)=true
section
variable {P:Program} {w:World} {K:PySem.W.Frag} {mg:A2} {base:Heap}
variable {x qual:Str}
theorem Fun.ok {st:Stmt} {f:Addr} {fd:FuncData} {N ps:List Str} {k:Nat} {sp:Sp} (F:Fun K x qual st f fd) (S:FnScope N ps (av st)) (len:∀vs H Q E,sp vs H Q E->vs.length=ps.length)
  (hbody:∀(cdv:Value) (A:Around) (outer:List Env) (s:Shared) (H:Hp) (vs:List V) (Q:VK) (E:XK),Room k (A.deeper (envOfC qual (av st) s.heap.objs.size f cdv))->sp vs H Q E ->
   ∃t,PSs (cxOf CX0 P w K mg base N qual (av st) f cdv A outer s H E).nox (bV st) t/\t { nx:=λ_ H'=>Q .non H',rt:=Q } (start N vs) H):FnOk P w K mg base CX0 (k+1) f fd ps sp:=by
 obtain⟨oc,od,kV,doc,pm,an,cdv,ct,osl,rfl,lk,hcd⟩:=F.ex;refine v5 lk hcd S len λA outer s H vs Q E hr hsp=>?_;obtain⟨t,h,q⟩:=hbody cdv A outer s H vs Q E hr hsp;exact⟨t,h.nox,q⟩
theorem Fun.binds {st:Stmt} {f:Addr} {fd:FuncData} {ps:List Str} (F:Fun K x qual st f fd)
  (h:∀(kV doc pm:Value) (an:Option Addr) (cdv ct:Value) (us:List Value),us.length=ps.length->bindArgs (PySem.W.fnOf x qual (cF st) (bV st) (av st) .none kV doc pm an cdv ct) ⟨us,[]⟩=pure (ps.zip us)):iB K fd ps []:=by
 obtain⟨oc,od,kV,doc,pm,an,cdv,ct,osl,rfl,lk,hcd⟩:=F.ex;exact .all (h kV doc pm an cdv ct)
theorem tL {st:Stmt} {f:Addr} {oc:Value} {od an:Option Addr} {osl:Array (Option Value)} {kV doc pm cdv ct:Value} (l:K.lookup f=some ⟨oc,od,.func (PySem.W.fnOf x qual (cF st) (bV st) (av st) .none kV doc pm an cdv ct),osl⟩)
  (c:PySem.W.codeIn K cdv qual=true) (k:PySem.W.keepIn K (.ref f)=true):Fun K x qual st f (PySem.W.fnOf x qual (cF st) (bV st) (av st) .none kV doc pm an cdv ct):=⟨⟨oc,od,kV,doc,pm,an,cdv,ct,osl,rfl,l,c⟩,k⟩
end
theorem cY {A:Around} {k:Nat} (hr:Room k A):A.units+8<cLine:=X3 (Nat.add_le_add_left (by decide:8<=64) _) hr.units
section
variable {X:Cx}
theorem pv (i:Nat) {x:Str} {pos:Pos} (hN:X.N[i]?=some x:=by rfl) (hv:Vis X.env.scope x:=by first|exact Or.inl rfl|exact Or.inr (Or.inl rfl)|exact Or.inr (Or.inr rfl)) (hd:(x==("__debug__" : Str))=false:=by decide)
  (hcd:(x==("__classdict__" : Str))=false:=by decide):PE X (.Name x pos) (fA i):=wN hN hv hd hcd
end
theorem iteF {A B:Prop} (h:B):if false=true then A else B:=by
 rw[Qq Qp];exact h
theorem b9 {A B:Prop} (h:A):if true=true then A else B:=by
 rw[Qs rfl];exact h
theorem jS {c A B:Prop} [Decidable c] (h1:c->A) (h2:¬c->B):if c then A else B:=by
 by_cases h:c
 ·rw[Qs h];exact h1 h
 rw[Qq h];exact h2 h
def ak (H H':Hp):Prop:=∀b o,H b=some o->H' b=some o
theorem ak.refl (H:Hp):ak H H:=λ_ _ h=>h
variable {H H1 H2 H' H4:Hp}
theorem ak.trans (a:ak H H1) (b:ak H1 H2):ak H H2:=λc o h=>b c o (a c o h)
variable {a c it T:Addr}
theorem ak.seq {K:PySem.W.Frag} {xs:List V} (e:ak H H') (h:SqL K H a xs):SqL K H' a xs:=by
 rcases h with(h|⟨o,h⟩)|h
 ·exact .inl (.inl (e _ _ h))
 ·exact .inl (.inr ⟨o,e _ _ h⟩)
 exact .inr h
section
variable {κ:Type} [DecidableEq κ]
variable {kvs:List (κ × V)}
theorem kG {k:κ} (h:bC kvs k=none):¬k∈kvs.map (·.1):=by
 intro m;obtain⟨p,hp,e⟩:=Qm.mp m;have q:(kvs.any λkv=>decide (kv.1=k))=true:=List.any_eq_true.mpr ⟨p,hp,QA e⟩;rw[cG,h]at q;exact absurd q (by simp)
theorem ud {k:κ} {v:V} (h:bC kvs k=some v):k∈kvs.map (·.1):=by
 have q:(kvs.any λkv=>decide (kv.1=k))=true:=by
  rw[cG,h]
  all_goals rfl
 obtain⟨p,hp,e⟩:=List.any_eq_true.mp q;exact Qm.mpr ⟨p,hp,XQ e⟩
theorem oW:∀{l:List κ} {k:κ},l.Nodup->¬k∈l->(l++[k]).Nodup
 | [],k,_,_=>by simp
 | a::r,k,h,hk=>by
  obtain⟨h1,h2⟩:=QS.mp h;show (a::(r++[k])).Nodup;refine QS.mpr ⟨λm=>?_,oW h2 λm=>hk (Qk.mpr (Or.inr m))⟩;rcases Qw.mp m with q|q
  ·exact h1 q
  exact hk (Qk.mpr (Or.inl (QB.mp q).symm))
end
section
variable {X:Cx}
end
def wk:St->St->Prop
 | [],[]=>True
 | none::a,_::b=>wk a b
 | some x::a,y::b=>y=some x/\wk a b
 | _,_=>False
theorem jw:∀{a b:St},wk a b->a.length=b.length
 | [],[],_=>rfl
 | [],_::_,h=>h.elim
 | none::_,[],h=>h.elim
 | some _::_,[],h=>h.elim
 | none::a,_::b,h=>congrArg (·+1) (jw (a:=a) (b:=b) h)
 | some _::a,_::b,h=>congrArg (·+1) (jw (a:=a) (b:=b) h.2)
theorem jx:∀{a b:St},wk a b->∀(i:Nat) (v:V),a[i]?=some (some v)->b[i]?=some (some v)
 | [],[],_,i,v,e=>by simp at e
 | [],_::_,h,_,_,_=>h.elim
 | none::_,[],h,_,_,_=>h.elim
 | some _::_,[],h,_,_,_=>h.elim
 | none::a,y::b,h,0,v,e=>by simp at e
 | none::a,y::b,h,i+1,v,e=>by
  have:=jx (a:=a) (b:=b) h i v (by simpa using e);simpa using this
 | some x::a,y::b,h,0,v,e=>by
  have e':x=v:=by simpa using e
  subst e';rw[h.1];rfl
 | some x::a,y::b,h,i+1,v,e=>by
  have:=jx (a:=a) (b:=b) h.2 i v (by simpa using e);simpa using this
def cy (env:Env):List (Str × NameKind)->List (Str × Addr)->List (Str × Addr)
 | [],acc=>acc
 | (n,k)::r,acc=>cy env r (if (k==.free)=true then (n,(env.cells.lookup n).getD 0)::acc else acc)
theorem ir {env:Env}:∀(ns:List (Str × NameKind)) (acc:List (Str × Addr)),(∀y∈ns,y.2=.free->∃c,env.cells.lookup y.1=some c) ->
  (forIn ns acc (fun x r=>match x with
   | (name,kind)=>if (kind==NameKind.free)=true then (do let c <-cellOf env name;pure (ForInStep.yield ((name,c)::r))) else pure (ForInStep.yield r)):Sem (List (Str × Addr)))=pure (cy env ns acc)
 | [],acc,_=>rfl
 | (n,k)::r,acc,h=>by
  rw[XH];have ih:=λa=>ir (env:=env) r a λy hy=>h y (Qu _ hy);by_cases hk:(k==NameKind.free)=true
  ·obtain⟨c,hc⟩:=h (n,k) Xu (by simpa using hk);have e1:cellOf env n=pure c:=by unfold cellOf;rw[hc]
   simp only[hk,if_true,e1,pure_bind];unfold cy;simp only[hk,if_true,hc,Option.getD_some];exact ih _
  simp only[hk,Xs,pure_bind];unfold cy;simp only[hk,Xs];exact ih _
variable {env:Env} {scope:Scope}
theorem iu (h:∀y∈scope.names,y.2=.free->∃c,env.cells.lookup y.1=some c):closureFor scope env=pure (cy env scope.names []):=by
 have e:=ir scope.names [] h;unfold closureFor
 first
  | (rw[show (forIn scope.names ([]:List (Str × Addr)) _:Sem (List (Str × Addr)))=pure (cy env scope.names []) from e];rfl)
  | (simp only[bind_pure];exact e)
  | exact(congrArg (· >>= pure) e)
theorem fS {env:Env}:∀(ns:List (Str × NameKind)) (acc:List (Str × Addr)) (n:Str) (a:Addr),(n,a)∈cy env ns acc->(n,a)∈acc\/(a=(env.cells.lookup n).getD 0/\(n,NameKind.free)∈ns)
 | [],acc,n,a,h=>.inl h
 | (m,k)::r,acc,n,a,h=>by
  unfold cy at h;by_cases hk:(k==NameKind.free)=true
  ·rw[Qs hk]at h;rcases fS r _ n a h with q|⟨q1,q2⟩
   ·rcases Qk.mp q with q|q
    ·cases q;have hk':k=.free:=by simpa using hk
     subst hk';exact .inr ⟨rfl,Xu⟩
    exact .inl q
   exact .inr ⟨q1,Qu _ q2⟩
  rw[Qq hk]at h;rcases fS r _ n a h with q|⟨q1,q2⟩
  ·exact .inl q
  exact .inr ⟨q1,Qu _ q2⟩
theorem jk {env:Env}:∀(ns:List (Str × NameKind)) (acc:List (Str × Addr)) (p:Str × Addr),p∈acc->p∈cy env ns acc
 | [],_,_,h=>h
 | (m,k)::r,acc,p,h=>by
  unfold cy;refine jk r _ p ?_
  split
  ·exact Qu _ h
  exact h
theorem iq {env:Env}:∀(ns:List (Str × NameKind)) (acc:List (Str × Addr)) (n:Str),(n,NameKind.free)∈ns->(n,(env.cells.lookup n).getD 0)∈cy env ns acc
 | [],_,_,h=>nomatch h
 | (m,k)::r,acc,n,h=>by
  unfold cy;rcases Qk.mp h with q|q
  ·cases q;refine jk r _ _ ?_;rw[Qs (by rfl)];exact Xu
  exact iq r _ n q
theorem dF {α β:Type} [BEq α] [LawfulBEq α]:∀{l:List (α × β)} {x:α} {y:β},l.lookup x=some y->(x,y)∈l
 | [],_,_,h=>by simp at h
 | (a,b)::r,x,y,h=>by
  rw[Xq]at h;by_cases e:(x==a)=true
  ·rw[e]at h;have e':x=a:=by simpa using e
   have h':b=y:=by simpa using h
   subst e' h';exact Xu
  have e2:(x==a)=false:=by simpa using e
  rw[e2]at h;exact Qu _ (dF (by simpa using h))
theorem eJ {α β:Type} [BEq α] [LawfulBEq α]:∀{l:List (α × β)} {x:α} {y:β},(x,y)∈l->∃z,l.lookup x=some z
 | [],_,_,h=>nomatch h
 | (a,b)::r,x,y,h=>by
  rw[Xq];by_cases e:(x==a)=true
  ·rw[e];exact⟨b,rfl⟩
  have e2:(x==a)=false:=by simpa using e
  rw[e2];rcases Qk.mp h with q|q
  ·cases q;simp at e
  exact eJ q
variable {x z:Str} {ns:List (Str × NameKind)}
theorem tY (h:(cy env ns []).lookup x=some c) (hall:∀y∈ns,y.2=.free->∃c,env.cells.lookup y.1=some c):env.cells.lookup x=some c:=by
 rcases fS ns [] x c (dF h) with q|⟨q1,q2⟩
 ·nomatch q
 obtain⟨c',hc⟩:=hall _ q2 rfl;have hc':env.cells.lookup x=some c':=hc;rw[hc']at q1;rw[hc',q1];rfl
theorem pL {env:Env} (h:(x,NameKind.free)∈ns):∃c,(cy env ns []).lookup x=some c:=eJ (iq ns [] x h)
noncomputable def Cx.block (X:Cx) (N:List Str) (scope:Scope) (C:Addr) (s:Shared) (H:Hp) (fp:A3):Cx :=
 { X with N:=N,s₀:=s,H₀:=H,env:=compEnvC scope (cy X.env scope.names []) C X.env,outer:=X.stack,ex:=fp,fn:=λ_=>false,pn:=[],xe:=λ_ _=>False }
theorem jE {k:NameKind} (h:(relabel scope env).names.lookup x=some k):∃k',scope.names.lookup x=some k'/\(k=k'\/(k'=.free/\k=.cell)):=by
 unfold relabel at h;generalize scope.names=ns at h
 induction ns with
 | nil=>simp at h
 | cons p r ih =>
 obtain⟨n,k0⟩:=p;rw[Qt]at h;by_cases e:(x==n)=true
 ·refine⟨k0,by rw[Xq,e],?_⟩;by_cases c:(k0==NameKind.free&&env.scope.kind==.function&&env.kindOf n==some .cell)=true
  ·have h1:some NameKind.cell=some k:=by
    have h2:=h;simp only[c,if_true]at h2;rw[Xq,e]at h2;exact h2
   have h3:k0=.free:=by
    simp only[XJ,beq_iff_eq]at c;exact c.1.1
   exact .inr ⟨h3,(QH h1).symm⟩
  have h1:some k0=some k:=by
   have h2:=h;simp only[c,Qz,Xs]at h2;rw[Xq,e]at h2;exact h2
  exact .inl (QH h1).symm
 have e2:(x==n)=false:=by simpa using e
 rw[Xq,e2];refine ih ?_;by_cases c:(k0==NameKind.free&&env.scope.kind==.function&&env.kindOf n==some .cell)=true
 ·have h2:=h;simp only[c,if_true]at h2;rw[Xq,e2]at h2;exact h2
 have h2:=h;simp only[c,Qz,Xs]at h2;rw[Xq,e2]at h2;exact h2
theorem jF (h:scope.names.lookup x=some .free):(relabel scope env).names.lookup x=some .cell\/(relabel scope env).names.lookup x=some .free:=by
 unfold relabel;show List.lookup x (scope.names.map _)=_\/List.lookup x (scope.names.map _)=_;generalize scope.names=ns at h
 induction ns with
 | nil=>simp at h
 | cons p r ih =>
 obtain⟨n,k0⟩:=p;rw[Qt];by_cases e:(x==n)=true
 ·rw[Xq,e]at h;have h':k0=.free:=by simpa using h
  subst h';by_cases c:(NameKind.free==NameKind.free&&env.scope.kind==.function&&env.kindOf n==some .cell)=true
  ·left
   simp only[c,if_true];rw[Xq,e]
  right
  simp only[c,Qz,Xs];rw[Xq,e]
 have e2:(x==n)=false:=by simpa using e
 rw[Xq,e2]at h;have h3:=ih h;by_cases c:(k0==NameKind.free&&env.scope.kind==.function&&env.kindOf n==some .cell)=true
 ·simp only[c,if_true];rw[Xq,e2];exact h3
 simp only[c,Qz,Xs];rw[Xq,e2];exact h3
def vz (X:Cx) (ifs:List Expr) (t:TT):Prop :=
 ∀(pins:A1) (s:Shared) (U:St) (H:Hp) (Q:Bool->Hp->Prop),Inv X pins U H s->t U H Q ->
  wpAny (model X.prog X.w) X.A (forIn ifs true λc r=>if r=true then do let ok <-isTrue c X.env (eval c X.env);pure (ForInStep.yield ok) else pure (ForInStep.yield r)) (TP X pins U Q) X.xe s
def eP:TT:=λ_ H Q=>Q true H
theorem cI:vz X [] eP:=λ_ _ _ H _ I h=>wpAny_tests_nil ⟨H,I,h⟩
theorem fh {c:Expr} {t:TT} (h:PT X c t):vz X [c] t:=λpins s U H Q I hw=>wpAny_tests_one (h pins s U H Q I hw)
variable {pos px:Pos}
theorem ft {prog:Program} {w:World} {A:Around} {R:Result->Shared->Prop} {s:Shared} {elt target iter:Expr} {ifs:List Expr} {it acc:Value} (I:Nat->Shared->Prop)
  (turn:∀n s,I n s->wpAny (model prog w) A (pyNext it) (fun r s1=>match r with
   | none=>R (.ok .next) s1
   | some v=>wpAny (model prog w) A (letOwnedTupleGo target it v) (λ_ s2=>wpAny (model prog w) A (assign target env v) (λ_ s3 =>
     wpAny (model prog w) A (forIn ifs true λc r=>if r=true then do let ok <-isTrue c env (eval c env);pure (ForInStep.yield ok) else pure (ForInStep.yield r)) (λok s4 =>
      if ok=true then wpAny (model prog w) A (eval elt env) (λx s5 =>
       wpAny (model prog w) A (call (.builtin "list.append") [acc,x]) (λ_ s6=>∃m,m<n/\I m s6) (λ_ _=>False) s5) (λ_ _=>False) s4
      else ∃m,m<n/\I m s4) (λ_ _=>False) s3) (λ_ _=>False) s2) (λ_ _=>False) s1) (λ_ _=>False) s)
  (n:Nat) (h:I n s):codeAny (model prog w) A (.compLoop (.ListComp elt [⟨target,iter,ifs,0⟩] scope pos) 0 it acc env) R s:=by
 refine codeAny_loop rfl I (λn s hI=>?_) n h;show wpAny _ A ((compTurn (.ListComp elt [⟨target,iter,ifs,0⟩] scope pos) 0 it acc env).onRaise (λx=>do noteFrame x env;theTreesLotGoes x)) _ _ s;refine wpAny_noted ?_;rw[compTurn_list];have no:∀{E:A0},∀e s',(λ(_:Value) (_:Shared)=>False) e s'->E e s':=λ_ _ z=>False.elim z;refine Qa (wpAny_standAt (Qa (XV (turn n s hI) (λr s1 h1=>?_) no)))
 cases r with
 | none=>exact Qe h1
 | some v =>
 refine Qa (XV h1 (λ_ s2 h2=>?_) no);refine Qa (XV h2 (λ_ s3 h3=>Qa (XV h3 (λok s4 h4=>?_) no)) no)
 cases ok with
 | false=>exact Qe ⟨rfl,h4⟩
 | true =>
 exact Qa (Qa (XV h4 (λx s5 h5=>Qa (XV h5 (λ_ s6 h6=>Qe (Qe ⟨rfl,h6⟩)) no)) no))
def bu (tgs:List Str) (cap:List (Str × Nat)) (U:St):St:=tgs.map (λ_=>none)++cap.map λc=>(U[c.2]?).join
def fW (wi:TI) (g:TG) (tt:TT) (te:TE) (f:St->St):TE:=λU H Q=>wi U H λJ H1=>∀D,H1 D=none->∃W:Nat->Nat->Hp->List V->Prop,(∃m,W 0 m (upd H1 D (.lst [])) []) /\
 ∀i m H ys,W i m H ys->H D=some (.lst ys)/\((J.stop i H/\Q (.ref D) H)\/(J.go i H/\∀x H',J.yld i H x H'->g x (f U) H' λσ2 H2=>wk (f U) σ2/\tt σ2 H2 λb H3 =>
  if b=true then te σ2 H3 λv H4=>H4 D=some (.lst ys)/\ys.length<sizeLine/\∃m',m'<m/\W (i+1) m' (upd H4 D (.lst (ys++[v]))) (ys++[v])
  else ∃m',m'<m/\W (i+1) m' H3 ys))
structure BlockOk (X:Cx) (scope:Scope) (tgs:List Str) (cap:List (Str × Nat)):Prop where
 kind:scope.kind=.function
 nocell:(scope.names.all λy=>!(y.2==NameKind.cell))=true
 names:(scope.names.all λy=>!(y.2==NameKind.local) || (scope.names.lookup y.1==some .local))=true
 free:(scope.names.all λy=>!(y.2==NameKind.free) || (X.env.scope.names.lookup y.1==some .cell) || (X.env.scope.names.lookup y.1==some .free))=true
 caps:(cap.all λc=>decide (X.N[c.2]?=some c.1)&&(scope.names.lookup c.1==some .free)&&(decide (X.env.scope.names.lookup c.1=some .cell) || decide (X.env.scope.names.lookup c.1=some .free)))=true
 tgl:(tgs.all λx=>(scope.names.lookup x==some .local))=true
section
variable {X:Cx} {scope:Scope} {tgs:List Str} {cap:List (Str × Nat)}
theorem BlockOk.cellAt (B:BlockOk X scope tgs cap) (ok:X.Ok):∀y∈scope.names,y.2=.free->∃c,X.env.cells.lookup y.1=some c:=λy hy hk=>by
 have q:=Xb.mp B.free y hy;rw[hk]at q;refine ok.has y.1 ?_;simp only[beq_self_eq_true,X5,Bool.false_or,Bool.or_eq_true,beq_iff_eq]at q;exact q
theorem BlockOk.noc (B:BlockOk X scope tgs cap):∀y∈scope.names,y.2≠.cell:=λy hy hk=>by
 have q:=Xb.mp B.nocell y hy;rw[hk]at q;simp at q
theorem BlockOk.locs (B:BlockOk X scope tgs cap):∀y∈scope.names,y.2=.local->scope.names.lookup y.1=some .local:=λy hy hk=>by
 have q:=Xb.mp B.names y hy;rw[hk]at q;simpa using q
variable {pins:A1}
theorem Inv.enter {U:St} {H:Hp} {s:Shared} {h1:Heap} {tk:Nat} {fp:A3} (B:BlockOk X scope tgs cap) (I:Inv X pins U H s) (hfp:∀b∈fp,d6 X pins H b) (hlt:∀b∈fp,b<s.heap.objs.size)
  (hns:h1.Ns s.heap.objs.size (λ_=>none)) (old:∀b o,s.heap.get? b=some o->h1.get? b=some o) :
  Inv (X.block (tgs++cap.map (·.1)) scope s.heap.objs.size s H fp) [] (bu tgs cap U) H { s with heap:=h1,toks:=tk }:=by
 have cellsIn:∀x c,(cy X.env scope.names []).lookup x=some c->X.env.cells.lookup x=some c:=λx c e=>tY e (B.cellAt I.ok)
 have kindIn:∀x,((relabel scope X.env).names.lookup x=some .cell\/(relabel scope X.env).names.lookup x=some .free)->(x,NameKind.free)∈scope.names:=λx hx=>by
  have go:∀k,(relabel scope X.env).names.lookup x=some k->(k=.cell\/k=.free)->(x,NameKind.free)∈scope.names:=λk hk hc=>by
   obtain⟨k',e1,e2⟩:=jE hk;have m:=dF e1;rcases e2 with e2|⟨e2,_⟩
   ·subst e2;rcases hc with z|z
    ·exact absurd z (B.noc _ m)
    subst z;exact m
   subst e2;exact m
  rcases hx with h|h
  ·exact go _ h (.inl rfl)
  exact go _ h (.inr rfl)
 have nocl:∀x c,X.env.cells.lookup x=some c->c≠s.heap.objs.size:=λx c e=>by
  obtain⟨v,q⟩:=I.cell x c e;exact QF q.lt
 refine⟨⟨I.ok.mod,?_,I.ok.glob,I.ok.blt,Qj _,λx y c e1 e2=>I.ok.inj x y c (cellsIn x c e1) (cellsIn y c e2),λx hx=>?_,λx c hf _=>absurd (show false=true from hf) Qp,I.ok.hd,I.ok.frames,.inl rfl,
  λb hb=>⟨QF (hlt b hb),λx c e=>?_⟩,I.bs,QK I.ok.bsz I.sz,λb o e hb=>?_,λb hb hf=>?_,I.stack,I.stkFree⟩,
  rfl,I.bare,Un.kept old,⟨_,hns,λi x v h2 h3 h4=>?_⟩,λx c e=>?_,?_,λx c e=>I.freeC x c (cellsIn x c e),λp hp=>absurd (show p∈([]:A1) from hp) (by simp),I.hok.kept old,?_⟩
 ·exact B.kind
 ·exact pL (kindIn x hx)
 ·exact(hfp b hb).2.2.2.2.1 x c (cellsIn x c e)
 ·-- no object of the base is an iterator of ours
  rcases(hfp b hb).2.2.2.1 with z|z
  ·exact I.ok.noex b o e z
  have q:=I.ok.bs b o e;exact absurd (QR (Qo q.1) z) (X6 _)
 ·have hf':b∈frs X.stack:=hf;rcases Qk.mp (I.stkSub b hf') with z|z
  ·exact(hfp b hb).2.1 z
  exact(hfp b hb).2.2.1 z
 ·-- a name that is known: one of the captured ones
  have hi:tgs.length<=i:=by
   by_cases hl:i<tgs.length
   ·exfalso;unfold bu at h3;rw[Xx (by simpa using hl),Qv]at h3
    cases e:tgs[i]? with
    | none=>rw[e]at h3;cases h3
    | some z=>rw[e]at h3;cases h3
   exact om2 hl
  unfold bu at h3;rw[Xf (by simpa using hi),Qc,Qv]at h3;have h2':(tgs++cap.map (·.1))[i]?=some x:=h2;rw[Xf hi,Qv]at h2'
  cases e:cap[i-tgs.length]? with
  | none=>rw[e]at h2';cases h2'
  | some c =>
  rw[e]at h2' h3;have hx:c.1=x:=by simpa using h2'
  have hv:(U[c.2]?).join=some v:=by simpa using h3
  have hm:c∈cap:=Ql e;have q:=Xb.mp B.caps c hm;simp only[XJ,decide_eq_true_eq,beq_iff_eq,Bool.or_eq_true]at q;obtain⟨⟨q1,q2⟩,q3⟩:=q
  have hσ:U[c.2]?=some (some v):=by
   cases z:U[c.2]? with
   | none=>rw[z]at hv;cases hv
   | some o =>
   rw[z]at hv;have:o=some v:=by simpa using hv
   rw[this]
  obtain⟨m,_,hl⟩:=I.loc
  obtain⟨u,r,l⟩:=hl c.2 c.1 v q1 hσ (by
   rcases q3 with z|z
   ·exact .inr (.inl z)
   exact .inr (.inr z))
  subst hx;refine⟨u,r,.inr ⟨jF q2,?_⟩⟩
  have nl:¬X.env.kindOf c.1=some .local:=λz=>by
   rcases q3 with y|y
   ·have:X.env.kindOf c.1=some .cell:=y;rw[this]at z;cases z
   have:X.env.kindOf c.1=some .free:=y;rw[this]at z;cases z
  rcases l with⟨l1,_⟩|⟨_,d,l2,l3⟩
  ·exact absurd l1 nl
  obtain⟨d',e'⟩:=pL (env:=X.env) (dF q2);have:d=d':=QH (l2.symm.trans (cellsIn _ _ e'));subst this;obtain⟨oc,ho,hd⟩:=l3;exact⟨d,e',oc,old d oc ho,hd⟩
 ·obtain⟨v,oc,ho,hd⟩:=I.cell x c (cellsIn x c e);exact⟨v,oc,old c oc ho,hd⟩
 ·exact I.hok.fresh (Qj _)
 unfold bu;show _=(tgs++cap.map (·.1)).length;simp
theorem Inv.leave {U σ':St} {H H':Hp} {s s':Shared} {h2:Heap} {fp:A3} {N:List Str} (I:Inv X pins U H s) (hfp:∀b∈fp,d6 X pins H b)
  (J:Inv (X.block N scope s.heap.objs.size s H fp) [] σ' H' s') (hs:Heap.SameBut s.heap.objs.size s'.heap h2):Inv X pins U H' { s' with heap:=h2 }:=by
 have u:Un (frs X.stack) fp H H' s.heap s'.heap:=J.base;have ne:∀b o,s.heap.get? b=some o->b≠s.heap.objs.size:=λb o e=>QF (Qo e);have hf:H' s.heap.objs.size=none:=J.free;have k:∀b o,b≠s.heap.objs.size->s'.heap.get? b=some o->h2.get? b=some o:=λb o hb e=>(hs.2 b hb).trans e
 have u2:Un (frs X.stack) fp H H' s.heap h2 :=
  ⟨λb o e n h1 h3=>k b o (ne b o e) (u.keep b o e n h1 h3),λb o e n h1 h3=>let ⟨sl,q⟩:=u.slot b o e n h1 h3;⟨sl,k b _ (ne b o e) q⟩,u.free,λb o e h3=>let ⟨o',q⟩:=u.there b o e h3;⟨o',k b o' (ne b o e) q⟩,u.tups,u.frzs,u.tbls⟩
 have hok:HOk X.prog X.w H' h2:=λb ob e=>(J.hok b ob e).stay (λc v hc q=>k c v (by
  rcases hc with z|z
  ·subst z;intro y;rw[y,hf]at e;cases e
  intro y
  rw[y,hf]at z;cases z) q) (λ_ q=>q) λ_ _ q=>q
 exact Inv.call' I (s':={ s' with heap:=h2 }) J.os u2 hok J.bare λb hb=>by
  obtain⟨f0,f1,f2,f3,f4,f5⟩:=hfp b hb;exact⟨f3,f1,f4,f5⟩
theorem gO {elt tg iter:Expr} {ifs:List Expr} {pos:Pos} {wi:TI} {g:TG} {tt:TT} {te:TE} (hc:X.calm=true) (B:BlockOk X scope tgs cap) (hi:PI X tg iter wi)
  (hg:∀C s H fp,PG (X.block (tgs++cap.map (·.1)) scope C s H fp) tg g) (ht:∀C s H fp,vz (X.block (tgs++cap.map (·.1)) scope C s H fp) ifs tt) (he:∀C s H fp,PE (X.block (tgs++cap.map (·.1)) scope C s H fp) elt te)
  (hs:∀x,foldedSetIterable iter X.env x=pure x:=by intro _;rfl):PE X (.ListComp elt [⟨tg,iter,ifs,0⟩] scope pos) (fW wi g tt te (bu tgs cap)):=by
 intro pins s U H Q I h;rw[eval_ListComp];refine wpAny_comprehension_free (use:=none) rfl hs (iu (B.cellAt I.ok)) B.kind B.locs (thn (hi pins s U H _ I h) λv s1 h1=>thn h1 λitv s2 h2=>?_);obtain⟨it,fp,tn,J,H2,e,I2,T,st2,f2,q⟩:=h2;subst e;have lt2:∀b∈fp,b<s2.heap.objs.size:=λb hb=>let ⟨o,e,_⟩:=T.obj _ _ st2 b hb;Qo e;have hD:H2 s2.heap.objs.size=none:=I2.hok.fresh (Qj _);obtain⟨W,⟨m0,w0⟩,turn⟩:=q s2.heap.objs.size hD;refine XR ?_;have I3:Inv X pins U (upd H2 s2.heap.objs.size (.lst [])) { s2 with heap:=s2.heap.push { cls:=.type "list", dict:=none,data:=.seq ([]:List Value).toArray } }:=I2.lnew (t':=s2.toks) (ys:=[]) (its:=[]) .nil (QU _);have st3:tn 0 (s2.heap.push { cls:=.type "list", dict:=none,data:=.seq ([]:List Value).toArray }):=T.keep _ _ _ st2 λb _ o e=>Qb _ e;have nD:∀b∈fp,b≠s2.heap.objs.size:=λb hb=>QF (lt2 b hb);have f3:∀b∈fp,d6 X pins (upd H2 s2.heap.objs.size (.lst [])) b:=λb hb=>⟨by rw[aq (nD b hb)];exact(f2 b hb).1,(f2 b hb).2⟩;generalize hs3:({ s2 with heap:=s2.heap.push { cls:=.type "list", dict:=none,data:=.seq ([]:List Value).toArray } }:Shared)=s3 at I3 st3 ⊢;have st3':tn 0 s3.heap:=by rw[<-hs3];exact st3
 have lt3:∀b∈fp,b<s3.heap.objs.size:=λb hb=>let ⟨o,e,_⟩:=T.obj _ _ st3' b hb;Qo e;generalize hH3:upd H2 s2.heap.objs.size (.lst [])=H3 at I3 f3 w0;generalize s2.heap.objs.size=D at *;refine wpAny_newFunctionEnv B.noc (by intro y hy;simp at hy) (λh1 hns hsb=>?_) B.kind;have old:∀b o,s3.heap.get? b=some o->h1.get? b=some o:=λb o e=>hsb.extBut b o (QF (Qo e)) (Qb _ e);have I4:=Inv.enter (tk:=s3.toks+([]:List (Str × Value)).length) (h1:=h1) B I3 f3 lt3 hns old;have st4:tn 0 h1:=T.keep _ _ _ st3' λb _ o e=>old b o e
 have fpB:∀{H':Hp},(∀b∈fp,H' b=none)->∀b∈fp,d6 (X.block (tgs++cap.map (·.1)) scope s3.heap.objs.size s3 H3 fp) [] H' b:=λ{H'} hn b hb =>
  ⟨hn b hb,QF (lt3 b hb),I4.ok.exfs b hb,.inl hb,λx c e=>(I4.ok.exf b hb).2 x c e,λp hp=>absurd (show p∈([]:A1) from hp) (by simp)⟩
 have loop:codeAny (model X.prog X.w) X.A (.compLoop (.ListComp elt [⟨tg,iter,ifs,0⟩] scope pos) 0 (.ref it) (.ref D) (compEnvC scope (cy X.env scope.names []) s3.heap.objs.size X.env))
   (compPost (model X.prog X.w) X.A X.xe none (EP X pins U Q) (.ref D) s3.heap.objs.size) { s3 with heap:=h1,toks:=s3.toks+([]:List (Str × Value)).length }:=by
  refine ft (λn s'=>∃i H' ys,Inv (X.block (tgs++cap.map (·.1)) scope s3.heap.objs.size s3 H3 fp) [] (bu tgs cap U) H' s'/\tn i s'.heap/\(∀b∈fp,H' b=none)/\W i n H' ys) ?_ m0 ⟨0,H3,[],I4,st4,λb hb=>(f3 b hb).1,w0⟩;rintro n s5 ⟨i,H5,ys,I5,st5,fr5,w5⟩;obtain⟨hl,ht5⟩:=turn i n H5 ys w5;rcases ht5 with⟨stop,qd⟩|⟨go,step⟩
  ·refine thn (T.done (X.block (tgs++cap.map (·.1)) scope s3.heap.objs.size s3 H3 fp) rfl rfl rfl hc i [] s5 _ H5 _ I5 (fpB fr5) st5 stop) λr s6 ⟨hr,I6⟩=>?_;subst hr;obtain⟨m6,n6,_⟩:=I6.loc;exact⟨m6,n6,λh' hs'=>⟨.ref D,H5,Inv.leave I3 f3 I6 hs',rfl,qd⟩⟩
  refine thn (T.item (X.block (tgs++cap.map (·.1)) scope s3.heap.objs.size s3 H3 fp) rfl rfl rfl hc i [] s5 _ H5 _ I5 (fpB fr5) st5 go) λr s6 ⟨u,hr,h6⟩=>?_;subst hr;refine thn h6 λ_ s7 ⟨x,H7,I7,r7,y7,st7,fr7⟩=>?_;have I7':=I7.pinned (fpB fr7) (T.obj _ _ st7)
  have again:∀{σ8:St} {H8:Hp} {s8:Shared} {ys8:List V},Inv (X.block (tgs++cap.map (·.1)) scope s3.heap.objs.size s3 H3 fp) ([]++fH fp s7.heap) σ8 H8 s8->wk (bu tgs cap U) σ8->(∃m',m'<n/\W (i+1) m' H8 ys8) ->
    ∃m,m<n/\∃i H' ys,Inv (X.block (tgs++cap.map (·.1)) scope s3.heap.objs.size s3 H3 fp) [] (bu tgs cap U) H' s8/\tn i s8.heap/\(∀b∈fp,H' b=none)/\W i m H' ys:=λ{σ8 H8 s8 ys8} I8 k8 ⟨m',hm,w8⟩=>by
   refine⟨m',hm,i+1,H8,ys8,I8.unpinned.weak (jw k8) (jx k8),T.keep _ _ _ st7 λb hb o e=>(I8.pin (b,o) (QC _ (QC _ (cB hb e)))).1,λb hb=>?_,w8⟩;obtain⟨o,e,d⟩:=T.obj _ _ st7 b hb;exact(I8.pin (b,o) (QC _ (QC _ (cB hb e)))).2.1
  refine thn (hg _ _ _ _ _ s7 _ H7 x u _ I7' r7 (step x H7 y7)) λ_ s8 ⟨σ8,H8,I8,k8,q8⟩=>?_;refine thn (ht _ _ _ _ _ s8 σ8 H8 _ I8 q8) λok s9 ⟨H9,I9,q9⟩=>?_
  cases ok with
  | false =>
   rw[Qq Qp]at q9 ⊢;exact again I9 k8 q9
  | true =>
  rw[Qs rfl]at q9 ⊢;refine thn (he _ _ _ _ _ s9 σ8 H9 _ I9 q9) λy sA ⟨yv,HA,IA,rA,hA,zA,qA⟩=>?_;exact thn (br _ sA σ8 HA (.ref D) [yv] (.ref D) [y] (λv H'=>v=.non/\∃m',m'<n/\W (i+1) m' H' (ys++[yv])) IA rfl (.cons rA .nil) ⟨D,ys,yv,rfl,rfl,hA,zA,rfl,qA⟩) λ_ sB ⟨_,HB,IB,_,_,qB⟩=>again IB k8 qB
 exact codeAny_compStart_list loop (T.self _ 0 _ _ _ st4 loop)
theorem c7 {X:Cx} {scope:Scope} {elt iter:Expr} {p pos:Pos} {wi:TI} {te:TE} (x:Str) (cap:List (Str × Nat)) (hi:PI X (.Name x p) iter wi) (he:∀C s H fp,PE (X.block ([x]++cap.map (·.1)) scope C s H fp) elt te) (hc:X.calm=true:=by rfl) (B:BlockOk X scope [x] cap:=by exact⟨rfl,rfl,rfl,rfl,rfl,rfl⟩) (hN:([x]++cap.map (·.1)).Nodup:=by decide +kernel) (hg:([x]++cap.map (·.1)).Nodup->∀C s H fp,PG (X.block ([x]++cap.map (·.1)) scope C s H fp) (.Name x p) (dw 0):=by intro h _ _ _ _;exact bi (i:=0) h rfl (by z_go)) (hs:∀x,foldedSetIterable iter X.env x=pure x:=by intro _;rfl):PE X (.ListComp elt [⟨.Name x p,iter,[],0⟩] scope pos) (fW wi (dw 0) eP te (bu [x] cap)):=gO hc B hi (hg hN) (λ_ _ _ _=>cI) he hs
end
def Itf (n:Nat) (f:Nat->V):It:=⟨λi _=>i<n,λi H x H'=>H'=H/\x=f i,λi _=>i=n⟩
variable {n i:Nat}
theorem gq {P:Program} {w:World} {K:PySem.W.Frag} {f:Nat->V} {Pv:Nat->Value->Prop} {St:Nat->Heap->Prop}
  (W:∀A:Around,A.handled=none->Walks P w A it [it] [it] n Pv St) (hP:∀i v,Pv i v->aU (f i) v) (hobj:∀i h,St i h->∃o,h.get? it=some o/\∀v,o.data≠.cell v)
  (hfr:∀i h h',St i h->(∀o,h.get? it=some o->h'.get? it=some o)->St i h')
  (hself:∀(A:Around) (i:Nat) (s:Shared) (Q:A0) (E:A0),St i s.heap->Q (.ref it) s->wpAny (model P w) A (pyIter (.ref it)) Q E s) :
  Turn P w K (.Name x px) (Itf n f) [it] it St where
 mem:=by simp
 obj:=λi h st b hb=>by
  have e:b=it:=by simpa using hb
  subst e;exact hobj i h st
 keep:=λi h h' st k=>hfr i h h' st λo e=>k it (by simp) o e
 item:=by
  intro X hP' hw hK hc i pins s U H E I hf st hg;subst hP' hw hK;obtain⟨f0,f1,f2,f3,f4,f5⟩:=hf it (by simp);refine(W X.A (I.ok.hd hc)).item i s _ _ hg st λv h' tk hv st' kk=>?_;have I1:Inv X pins U H { s with heap:=h',toks:=tk }:=I.turned (λb o hb e=>kk b o (by simpa using hb) e) f0 f1 f3 f4 f5;refine⟨v,rfl,wpAny_of_eq (a:=()) (by rfl) ⟨f i,H,I1,hP i v hv,⟨rfl,rfl⟩,st',λb hb=>(hf b hb).1⟩⟩
 done:=by
  intro X hP' hw hK hc i pins s U H E I hf st hg;subst hP' hw hK;obtain⟨f0,f1,f2,f3,f4,f5⟩:=hf it (by simp);have e:i=n:=hg;subst e;exact(W X.A (I.ok.hd hc)).done s _ _ st λh' tk kk=>⟨rfl,I.turned (λb o hb e=>kk b o (by simpa using hb) e) f0 f1 f3 f4 f5⟩
 self:=λA i s Q E st h=>hself A i s Q E st h
def fX (z:Str) (i:Nat):V:=.str ⟨#[z.cps.getD i 0]⟩
theorem gB {v:Value} (h:SignAt z i v):aU (fX z i) v:=by
 obtain⟨c,u,h1,h2⟩:=h;subst h2;refine⟨u,?_⟩;have:z.cps.getD i 0=c:=by rw[QW,h1];rfl
 rw[this]
theorem rk {P:Program} {w:World} {K:PySem.W.Frag} {t:Tok} {ty:String} (hty:ty = "str_ascii_iterator" \/ ty = "str_iterator") :
  Turn P w K (.Name x px) (Itf z.cps.size (fX z)) [it] it (λi h=>h.IsStrIter it ty z t i):=by
 rcases hty with e|e
 ·subst e
  exact gq (λA hA=>Walks.strAscii hA it z t) (λi v h=>gB h) (λi h st=>let ⟨o,e,_,d⟩:=st;⟨o,e,λv q=>by rw[d]at q;cases q⟩)
   (λi h h' st k=>let ⟨o,e,r⟩:=st;⟨o,k o e,r⟩) λA i s Q E st q=>wpAny_pyIter_striter_ascii st q
 subst e
 exact gq (λA hA=>Walks.strWide hA it z t) (λi v h=>gB h) (λi h st=>let ⟨o,e,_,d⟩:=st;⟨o,e,λv q=>by rw[d]at q;cases q⟩)
  (λi h h' st k=>let ⟨o,e,r⟩:=st;⟨o,k o e,r⟩) λA i s Q E st q=>wpAny_pyIter_striter_wide st q
section
variable {X:Cx} {x:Str} {px:Pos}
def yo (tl:TE):TI:=λU H R=>tl U H λv H1=>∃z:Str,v=.str z/\R (Itf z.cps.size (fX z)) H1
theorem rY {l:Expr} {tl:TE} (hl:PE X l tl):PI X (.Name x px) l (yo tl):=by
 intro pins s U H R I h;refine thn (hl pins s U H _ I h) λv s1 ⟨y,H1,I1,r1,q1⟩=>?_;obtain⟨z,e,q⟩:=q1;subst e;obtain⟨t,e⟩:=r1;subst e
 have fin:∀ty:String,(ty = "str_ascii_iterator" \/ ty = "str_iterator")->PIE X pins U (.Name x px) R (.ref s1.heap.objs.size) { s1 with heap:=s1.heap.push { cls:=.type ty,data:=.fields #[.str z t,.int 0 0] } }:=λty hty=>by
  refine⟨s1.heap.objs.size,[s1.heap.objs.size],_,_,H1,rfl,I1.kept (t':=s1.toks) λb o e=>Qb _ e,rk (t:=t) hty,⟨_,Qn _ rfl,rfl,rfl⟩,λb hb=>?_,q⟩;have e:b=s1.heap.objs.size:=by simpa using hb
  subst e;exact I1.fpOk (Qj _) (I1.hok.fresh (Qj _))
 cases ha:z.cps.all (·<128) with
 | false=>exact wpAny_pyIter_wide ha (fin _ (.inr rfl))
 | true=>exact wpAny_pyIter_ascii ha (fin _ (.inl rfl))
end
section
variable {X:Cx}
def xP:V->Option Int->Option Int->Hp->VK->Prop:=λx lo hi H Q=>∃z:Str,x=.str z/\z.length<=sizeLine/\Q (.str (Txt.slice z lo hi)) H
theorem eV:SlR X xP:=by
 intro pins s U H x v vl vu lo hi sl Q I rx hs pl pu h;obtain⟨z,e,hz,q⟩:=h;subst e;obtain⟨t,e⟩:=rx;subst e;refine⟨"str", _,F.slot_str_getitem.lookup,typeIs_str _ _ _,?_⟩;have fin:∀(t':Tok) (k:Nat),EP X pins U Q (.str (Txt.slice z lo hi) t') { s with toks:=k }:=λt' k=>⟨.str _,H,I.tok k,⟨t',rfl⟩,q⟩
 cases pl with
 | none =>
  cases pu with
  | none=>exact wpAny_getItem_str_slice (l:=none) (u:=none) (st:=none) hs rfl (post_val_or_str ⟨QK (Txt.slice_le z _ _) hz,fin⟩)
  | int j uj=>exact wpAny_getItem_str_slice (l:=none) (u:=some (j,uj)) (st:=none) hs rfl (post_val_or_str ⟨QK (Txt.slice_le z _ _) hz,fin⟩)
 | int i ui =>
 cases pu with
 | none=>exact wpAny_getItem_str_slice (l:=some (i,ui)) (u:=none) (st:=none) hs rfl (post_val_or_str ⟨QK (Txt.slice_le z _ _) hz,fin⟩)
 | int j uj=>exact wpAny_getItem_str_slice (l:=some (i,ui)) (u:=some (j,uj)) (st:=none) hs rfl (post_val_or_str ⟨QK (Txt.slice_le z _ _) hz,fin⟩)
theorem dB:∀{ys:List Str} {us:List Value},aO (ys.map V.str) us->StrsAre us ys
 | [],_,r=>by
  rw[List.map_nil]at r;cases r;exact .nil
 | y::ys,_,r=>by
  rw[Qt]at r
  cases r with
  | cons r1 r2 =>
  obtain⟨t,e⟩:=r1;subst e;exact .cons y t (dB r2)
def xR (K:PySem.W.Frag):V->List V->Hp->VK->Prop:=λx vs H Q=>∃(z:Str) (l:Addr) (ys:List Str),x=.str z/\vs=[.ref l]/\SqL K H l (ys.map V.str)/\(ys.map (·.length)).sum+ys.length*z.length<=16777216/\Q (.str (Txt.join z ys)) H
theorem uS:MtR X "str.join" (xR X.K):=by
 intro pins s U H x vs v us Q I rx rv h;obtain⟨z,l,ys,e1,e2,hl,hz,q⟩:=h;subst e1 e2;obtain⟨t,e⟩:=rx;subst e;obtain⟨u,e,ru⟩:=rv.one;subst e;cases ru;obtain⟨its,r,pl,_⟩:=I.list hl;exact join_list pl.isList (by simpa using dB r) hz λt' k=>⟨.str _,H,I.tok k,⟨t',rfl⟩,q⟩
theorem qQ (ys:List Str):(Txt.join Str.empty ys).cps.toList=(ys.map (·.cps.toList)).flatten:=by
 unfold Txt.join;rw[PySem.StrLaws.glued_eq_join]
 induction ys with
 | nil=>rfl
 | cons y r ih =>
 cases r with
 | nil=>simp[Str.join]
 | cons y2 r2 =>
 show (y++Str.empty++Str.join Str.empty (y2::r2)).cps.toList=_;rw[Qt,List.flatten_cons,<-ih];show (y.cps++Str.empty.cps++(Str.join Str.empty (y2::r2)).cps).toList=_;simp[Str.empty]
end
inductive EqD (K:PySem.W.Frag) (H:Hp):Nat->V->V->Bool->Prop
 | flat {n:Nat} {x y:V}:bZ x=true->bZ y=true->EqD K H n x y (eqV x y)
 | same {n:Nat} {a:Addr}:EqD K H n (.ref a) (.ref a) true
 | lists {n:Nat} {a b:Addr} {xs ys:List V} {e:Nat->Bool}:SqL K H a xs->SqL K H b ys->xs.length=ys.length->(∀(j:Nat) x y,xs[j]?=some x->ys[j]?=some y->EqD K H n x y (e j))->a≠b ->
   EqD K H (n+1) (.ref a) (.ref b) ((List.range xs.length).all e)
 | tups {n:Nat} {a b:Addr} {xs ys:List V} {e:Nat->Bool}:SqT K H a xs->SqT K H b ys->(∀(j:Nat) x y,xs[j]?=some x->ys[j]?=some y->EqD K H n x y (e j))->a≠b ->
   EqD K H (n+1) (.ref a) (.ref b) ((List.range (min xs.length ys.length)).all e&&xs.length==ys.length)
theorem EqD.at {X:Cx} {pins:A1} {U:St} {H:Hp} {s:Shared} (I:Inv X pins U H s) {n:Nat} {x y:V} {b:Bool} (h:EqD X.K H n x y b) :
  ∀{A:Around} {u v:Value},A.units+n<cLine->aU x u->aU y v->SeqAt.EqAt A s u v b:=by
 induction h with
 | flat fx fy=>intro A u v _ rx ry;exact tR rx ry fx fy
 | same =>
  intro A u v _ rx ry;cases rx;cases ry;exact SeqAt.EqAt.same _
 | @lists n a c xs ys e ha hb hl hi hne ih =>
  intro A u v hu rx ry;cases rx;cases ry;obtain⟨its,r1,p1,_⟩:=I.list ha;obtain⟨its2,r2,p2,_⟩:=I.list hb;have l1:=r1.length;have l2:=r2.length;refine SeqAt.EqAt.of_refs hne ?_
  have q:=SeqAt.RcAt.lists (A:=A) (e:=e) p1.isList p2.isList (by rw[Qi,Qi];exact om7 hl l1 l2) (by exact om8 hu) λj h1 h2=>by
   rw[Qi]at h1 h2;have e1:xs[j]?=some xs[j]:=Qd (by exact om9 hl l1 l2 h1);have e2:ys[j]?=some ys[j]:=Qd (by exact yJ hl l1 l2 h1);obtain⟨w1,g1,rr1⟩:=r1.get e1;obtain⟨w2,g2,rr2⟩:=r2.get e2
   have g1':its.toArray[j]=w1:=by
    have:=(Qf.mp g1).2;simpa using this
   have g2':its2.toArray[j]=w2:=by
    have:=(Qf.mp g2).2;simpa using this
   rw[g1',g2'];exact ih j _ _ e1 e2 (by show A.units+1+n<cLine;exact ya hu) rr1 rr2
  rw[Qi,<-l1]at q;exact q
 | @tups n a c xs ys e ha hb hi hne ih =>
 intro A u v hu rx ry;cases rx;cases ry;obtain⟨its,r1,p1,_⟩:=I.tuple ha;obtain⟨its2,r2,p2,_⟩:=I.tuple hb;have l1:=r1.length;have l2:=r2.length;refine SeqAt.EqAt.of_refs hne ?_
 have q:=SeqAt.RcAt.tuples (A:=A) (e:=e) (show s.heap.IsTuple a its.toArray from p1) (show s.heap.IsTuple c its2.toArray from p2) (by exact om8 hu) λj h1 h2=>by
  rw[Qi]at h1 h2;have e1:xs[j]?=some xs[j]:=Qd (by exact sE l1 h1);have e2:ys[j]?=some ys[j]:=Qd (by exact sE l2 h2);obtain⟨w1,g1,rr1⟩:=r1.get e1;obtain⟨w2,g2,rr2⟩:=r2.get e2
  have g1':its.toArray[j]=w1:=by
   have:=(Qf.mp g1).2;simpa using this
  have g2':its2.toArray[j]=w2:=by
   have:=(Qf.mp g2).2;simpa using this
  rw[g1',g2'];exact ih j _ _ e1 e2 (by show A.units+1+n<cLine;exact ya hu) rr1 rr2
 rw[Qi,Qi,<-l1,<-l2]at q;exact q
section
variable {X:Cx}
theorem EqD.items {pins:A1} {U:St} {H:Hp} {s:Shared} (I:Inv X pins U H s) {n:Nat} {A:Around} (hu:A.units+1+n<cLine) {xs ys:List V} {its its2:List Value} (r1:aO xs its) (r2:aO ys its2) {e:Nat->Bool}
  (h:∀(j:Nat) x y,xs[j]?=some x->ys[j]?=some y->EqD X.K H n x y (e j)) (j:Nat) (h1:j<its.toArray.size) (h2:j<its2.toArray.size):SeqAt.EqAt A.in1 s its.toArray[j] its2.toArray[j] (e j):=by
 have l1:=r1.length;have l2:=r2.length;rw[Qi]at h1 h2;have e1:xs[j]?=some xs[j]:=Qd (by exact x_ h1 l1);have e2:ys[j]?=some ys[j]:=Qd (by exact x_ h2 l2);obtain⟨w1,g1,rr1⟩:=r1.get e1;obtain⟨w2,g2,rr2⟩:=r2.get e2
 have g1':its.toArray[j]=w1:=by
  have:=(Qf.mp g1).2;simpa using this
 have g2':its2.toArray[j]=w2:=by
  have:=(Qf.mp g2).2;simpa using this
 rw[g1',g2'];exact EqD.at I (h j _ _ e1 e2) (by show A.units+1+n<cLine;exact hu) rr1 rr2
def uu (K:PySem.W.Frag) (neg:Bool):R2:=λx y H Q=>∃a b xs ys e,x=.ref a/\y=.ref b/\SqL K H a xs/\SqL K H b ys/\(∀(j:Nat) x y,xs[j]?=some x->ys[j]?=some y->EqD K H 8 x y (e j)) /\
 Q (.bl (if neg then !(xs.length==ys.length&&(List.range xs.length).all e) else (xs.length==ys.length&&(List.range xs.length).all e))) H
def mT (K:PySem.W.Frag) (neg:Bool):R2:=λx y H Q=>∃a b xs ys e,x=.ref a/\y=.ref b/\SqT K H a xs/\SqT K H b ys/\(∀(j:Nat) x y,xs[j]?=some x->ys[j]?=some y->EqD K H 8 x y (e j)) /\
 Q (.bl (if neg then !((List.range (min xs.length ys.length)).all e&&xs.length==ys.length) else ((List.range (min xs.length ys.length)).all e&&xs.length==ys.length))) H
theorem sC (hu:X.A.units+64<cLine):OpR X (compareOp .Eq) (uu X.K false):=by
 intro pins s U H x y v u Q I rx ry h;obtain⟨a,b,xs,ys,e,e1,e2,ha,hb,hi,q⟩:=h;subst e1 e2;cases rx;cases ry;obtain⟨its,r1,p1,_⟩:=I.list ha;obtain⟨its2,r2,p2,_⟩:=I.list hb;have l1:=r1.length;have l2:=r2.length;by_cases hl:xs.length=ys.length
 ·refine SeqAt.eq_listAt (e:=e) p1.isList p2.isList (by rw[Qi,Qi];exact xZ l1 l2 hl) (by exact ql hu) (EqD.items I (by exact uD hu) r1 r2 hi) ⟨.bl _,H,I,rfl,?_⟩;rw[Qi,<-l1];have:(xs.length==ys.length)=true:=by simpa using hl
  rw[this]at q;exact q
 refine SeqAt.eq_list_lengthsAt p1.isList p2.isList (by rw[Qi,Qi,<-l1,<-l2];simpa using hl) (by exact ql hu) ⟨.bl _,H,I,rfl,?_⟩;have:(xs.length==ys.length)=false:=by simpa using hl
 rw[this]at q;exact q
theorem gU (hu:X.A.units+64<cLine):OpR X (compareOp .NotEq) (uu X.K true):=by
 intro pins s U H x y v u Q I rx ry h;obtain⟨a,b,xs,ys,e,e1,e2,ha,hb,hi,q⟩:=h;subst e1 e2;cases rx;cases ry;obtain⟨its,r1,p1,_⟩:=I.list ha;obtain⟨its2,r2,p2,_⟩:=I.list hb;have l1:=r1.length;have l2:=r2.length;by_cases hl:xs.length=ys.length
 ·refine SeqAt.RcNeAt.lists (e:=e) p1.isList p2.isList (by rw[Qi,Qi];exact xZ l1 l2 hl) (by exact ql hu) (EqD.items I (by exact uD hu) r1 r2 hi) _ _ _ _ ⟨.bl _,H,I,rfl,?_⟩;rw[Qi,<-l1];have:(xs.length==ys.length)=true:=by simpa using hl
  rw[this]at q;exact q
 refine SeqAt.RcNeAt.lists_lengths p1.isList p2.isList (by rw[Qi,Qi,<-l1,<-l2];simpa using hl) (by exact ql hu) _ _ _ _ ⟨.bl _,H,I,rfl,?_⟩;have:(xs.length==ys.length)=false:=by simpa using hl
 rw[this]at q;exact q
theorem jH (hu:X.A.units+64<cLine):OpR X (compareOp .Eq) (mT X.K false):=by
 intro pins s U H x y v u Q I rx ry h;obtain⟨a,b,xs,ys,e,e1,e2,ha,hb,hi,q⟩:=h;subst e1 e2;cases rx;cases ry;obtain⟨its,r1,p1,_⟩:=I.tuple ha;obtain⟨its2,r2,p2,_⟩:=I.tuple hb;have l1:=r1.length;have l2:=r2.length;refine SeqAt.eq_tupleAt (e:=e) (show s.heap.IsTuple a its.toArray from p1) (show s.heap.IsTuple b its2.toArray from p2) (by exact ql hu) (EqD.items I (by exact uD hu) r1 r2 hi) ⟨.bl _,H,I,rfl,?_⟩;rw[Qi,Qi,<-l1,<-l2];exact q
theorem jG (hu:X.A.units+64<cLine):OpR X (compareOp .NotEq) (mT X.K true):=by
 intro pins s U H x y v u Q I rx ry h;obtain⟨a,b,xs,ys,e,e1,e2,ha,hb,hi,q⟩:=h;subst e1 e2;cases rx;cases ry;obtain⟨its,r1,p1,_⟩:=I.tuple ha;obtain⟨its2,r2,p2,_⟩:=I.tuple hb;have l1:=r1.length;have l2:=r2.length;refine SeqAt.RcNeAt.tuples (e:=e) (show s.heap.IsTuple a its.toArray from p1) (show s.heap.IsTuple b its2.toArray from p2) (by exact ql hu) (EqD.items I (by exact uD hu) r1 r2 hi) _ _ _ _ ⟨.bl _,H,I,rfl,?_⟩;rw[Qi,Qi,<-l1,<-l2];exact q
end
section
variable {X:Cx}
theorem bp:cM X (.builtin "isinstance") (λxs H Q=>∃x T ty b,xs=[x,.ty T]/\TyOf X.K H x ty/\PySem.W.kitOne X.K ty (.type T)=some b/\Q (.bl b) H):=by
 intro pins s U H xs us Q I r h;obtain⟨x,T,ty,b,e,t,k,q⟩:=h;subst e;obtain⟨u1,u2,e,r1,r2⟩:=kD r;subst e;cases r2;exact qL I r1 t k λtk=>⟨.bl b,H,I.tok tk,rfl,q⟩
theorem cu {K:PySem.W.Frag} (T:String):PySem.W.kitOne K (.type T) (.type T)=some true:=by
 unfold PySem.W.kitOne;rw[Qs (by simp)]
theorem q_ (bs:List Bool):(List.range bs.length).all (λi=>bs.getD i false)=bs.all id:=by
 rw[XS];simp only[Xb,Xz]
 constructor
 ·intro h x hx;obtain⟨i,hi,e⟩:=List.mem_iff_getElem.mp hx;have q:=h i hi;rw[Qr,Qd hi,Option.getD_some,e]at q;exact q
 intro h i hi;rw[Qr,Qd hi,Option.getD_some];exact h _ (Xi hi)
theorem dA (hc:X.calm=true):cM X (.builtin "all") (λxs H Q=>∃(l:Addr) (bs:List Bool),xs=[.ref l]/\SqL X.K H l (bs.map V.bl)/\Q (.bl (bs.all id)) H):=by
 intro pins s U H xs us Q I r h;obtain⟨l,bs,e,hl,q⟩:=h;subst e;obtain⟨u,e,ru⟩:=cT r;subst e;cases ru;obtain⟨its,rv,pl,hz⟩:=I.list hl;have hlen:=rv.length;rw[Qc]at hlen
 have ne:l≠s.heap.objs.size:=by
  obtain⟨o,ho,_⟩:=pl.isList;exact QF (Qo ho)
 refine call_all_walk (wpAny_pyIter_list pl.isList ?_);refine⟨s.heap.objs.size,_,_,_,_,_,(λi=>bs.getD i false),rfl,Walks.list (show X.A.in1.handled=none from I.ok.hd hc) s.heap.objs.size l ne its.toArray,⟨⟨_,Qn _ rfl,rfl,rfl⟩,pl.isList.push _⟩,?_,λh' tk hk=>?_⟩
 ·intro i v s' Q' E' hP hQ;have hP':its[i]?=some v:=by simpa using hP
  have hi:i<bs.length:=by
   have:=(Qf.mp hP').1;exact sE hlen this
  have e1:(bs.map V.bl)[i]?=some (.bl (bs.getD i false)):=by
   rw[Qv,Qd hi,Qr,Qd hi];rfl
  obtain⟨u,hu,ru⟩:=rv.get e1;rw[hP']at hu;cases hu;cases ru;exact XM hQ
 have hs:its.toArray.size=bs.length:=by rw[Qi];exact hlen.symm
 rw[hs,q_]
 exact⟨.bl _,H,I.kept λb o e=>hk b o (by
  have:=Qo e;simp only[QB]
  exact QF this) (Qb _ e),rfl,q⟩
abbrev gt (K:PySem.W.Frag) (T:Addr) (D:List (Str × KTD.Dat)):Prop:=KTD.tabLook (KTD.datLooks λa=>K.lookup a) (λa=>K.lookup a) T D=true
theorem iY {T:Addr} {D:List (Str × KTD.Dat)} (hT:gt X.K T D):OpR X (compareOp .In) (λx y H Q=>∃z,x=.str z/\y=.ref T/\Q (.bl (KTD.inKeys z D)) H):=by
 intro pins s U H x y v u Q I rx ry h;obtain⟨z,e1,e2,q⟩:=h;subst e1 e2;obtain⟨t,e⟩:=rx;subst e;cases ry;exact KTD.in_text (h₀:=X.base) ⟨KTD.text_of_look (get:=λa=>X.K.lookup a) (λa o e=>I.mod.kin a o e) hT,I.bk⟩ ⟨.bl _,H,I.tok _,rfl,q⟩
theorem mW:OpR X (binaryOp .Mult) (λx y H Q=>∃z n,x=.str z/\y=.int n/\MulOk z n/\Q (.str (Txt.mul z n)) H):=by
 intro pins s U H x y v u Q I rx ry h;obtain⟨z,n,e1,e2,hm,q⟩:=h;subst e1 e2;obtain⟨t,e⟩:=rx;subst e;obtain⟨t',e⟩:=ry;subst e;exact SB.mul hm λt' k=>⟨.str _,H,I.tok k,⟨t',rfl⟩,q⟩
theorem iJ:cM X (.type "int") (λxs H Q=>∃z n,xs=[.str z]/\PySem.intText? z=some n/\z.length<=640/\Q (.int n) H):=by
 intro pins s U H xs us Q I r h;obtain⟨z,n,e,h1,h2,q⟩:=h;subst e;obtain⟨u,e,ru⟩:=cT r;subst e;obtain⟨t,e⟩:=ru;subst e;exact PySem.W.KIN.call_text h1 h2 ⟨.int n,H,I.tok _,⟨_,rfl⟩,q⟩
end
theorem Inv.turned2 {pins:A1} {U:St} {s:Shared} {h':Heap} {t':Nat} {e:Addr} {o:HO} (I:Inv X pins U H s) (k:∀b o,b≠e->b≠it->s.heap.get? b=some o->h'.get? b=some o)
  (f1:d6 X pins H e) (f2:d6 X pins H it) (hT:s.heap.objs.size<=T) (new:a_ X.prog X.w (upd H T o) h' T o):Inv X pins U (upd H T o) { s with heap:=h',toks:=t' }:=by
 have hn:H T=none:=I.hok.fresh hT;have nT:∀b u,s.heap.get? b=some u->b≠T:=λb u q=>QF (QR (Qo q) hT);have n1:∀b u,H b=some u->b≠e:=λb u q z=>by rw[z,f1.1]at q;cases q
 have n2:∀b u,H b=some u->b≠it:=λb u q z=>by rw[z,f2.1]at q;cases q
 have kk:∀b u,b∉[e,it]->s.heap.get? b=some u->h'.get? b=some u:=λb u hc q=>k b u (λz=>hc (by simp[z])) (λz=>hc (by simp[z])) q
 refine I.step (g':=s.gens) (d':=s.drawn) (ch:=[e,it]) (λb hb=>?_) (λb u _ _ hc q _=>kk b u hc q) (λb u _ _ hc q _=>⟨u.slots,kk b u hc q⟩) (λb u _ q n=>by rw[aq (nT b u q)];exact n)
  (λb u hc q=>⟨u,kk b u hc q⟩) (λb xs q=>by rw[aq (aA q hn)];exact q) (λb u xs q=>by rw[aq (aA q hn)];exact q) (λb ps q=>⟨#[],by rw[aq (aA q hn),q];simp⟩) (λm hm=>?_) (λb u q=>?_) I.bare
 ·have z:b=e\/b=it:=by simpa using hb
  rcases z with z|z
  ·subst z;obtain⟨_,a2,_,a4,a5,a6⟩:=f1;exact⟨a4,a2,a5,a6⟩
  subst z;obtain⟨_,a2,_,a4,a5,a6⟩:=f2;exact⟨a4,a2,a5,a6⟩
 ·obtain⟨ob,es,ep,ho,r⟩:=hm;exact⟨ob,es,ep,k _ ob (Ne.symm f1.2.1) (Ne.symm f2.2.1) ho,r⟩
 by_cases hb:b=T
 ·subst hb;rw[ah]at q;cases q;exact new
 rw[aq hb]at q;refine(I.hok b u q).stay (λc v hc z=>k c v ?_ ?_ z) (λc z=>by rw[aq (aA z hn)];exact z) λc xs z=>by rw[aq (aA z hn)];exact z
 ·rcases hc with z|z
  ·rw[z];exact n1 b u q
  exact n1 c _ z
 rcases hc with z|z
 ·rw[z];exact n2 b u q
 exact n2 c _ z
noncomputable def Ite (K:PySem.W.Frag) (a:Addr):It :=
 ⟨λi H=>∃xs x,SqL K H a xs/\xs[i]?=some x,λi H x H'=>∃T v,H T=none/\x=.ref T/\H'=upd H T (.tup [.int (i:Nat),v])/\∀xs,SqL K H a xs->xs[i]?=some v,λi H=>∃xs,SqL K H a xs/\xs.length<=i⟩
theorem pS {P:Program} {w:World} {K:PySem.W.Frag} {elts:List Expr} {k:Nat} (a e it:Addr) (hne:e≠it) :
  Turn P w K (.Tuple elts k pos) (Ite K a) [e,it] e (λi h=>(∃old,IsEnum h e it (i:Nat) old)/\h.IsListIter it a i) where
 mem:=by simp
 obj:=λi h st b hb=>by
  obtain⟨⟨old,he⟩,o,ho,hc,hd⟩:=st;have z:b=e\/b=it:=by simpa using hb
  rcases z with z|z
  ·subst z
   exact⟨_,he,λv q=>by
    have q':Data.fields _=Data.cell v:=q
    cases q'⟩
  subst z;exact⟨o,ho,λv q=>by rw[hd]at q;cases q⟩
 keep:=λi h h' st kk=>by
  obtain⟨⟨old,he⟩,hl⟩:=st;exact⟨⟨old,kk e (by simp) _ he⟩,hl.at λo q=>kk it (by simp) o q⟩
 item:=by
  intro X hP hw hK hc i pins s U H E I hf st hg;subst hP hw hK;obtain⟨xs,x,hq,hx⟩:=hg;obtain⟨its,rv,p,hz⟩:=I.list hq;obtain⟨u,hu,ru⟩:=rv.get hx;obtain⟨⟨old,he⟩,hl⟩:=st;have f1:=hf e (by simp);have f2:=hf it (by simp);refine wpAny_pyNext_enum_item he hl p.isList (x:=u) (by simpa using hu) hne λh1 a1 a2 a3 a4 a5=>⟨_,rfl,?_⟩;refine wpAny_letOwnedTupleGo_enum a1 λh2 b1 b2=>?_
  have nTe:s.heap.objs.size≠e:=λz=>by
   have q:=Qo (show s.heap.get? e=some _ from he);rw[<-z]at q;exact X6 _ q
  have keep2:∀b o,b≠e->b≠it->s.heap.get? b=some o->h2.get? b=some o:=λb o n1 n2 q=>b2.extBut b o n1 (a5 b o n1 n2 q);have tup2:h2.get? s.heap.objs.size=some { cls:=.type "tuple", data:=.seq #[.int i s.toks,u] }:=b2.extBut _ _ nTe a3
  have I2:Inv X pins U (upd H s.heap.objs.size (.tup [.int (i:Nat),x])) { s with heap:=h2,toks:=s.toks+1 } :=
   I.turned2 keep2 f1 f2 (Qj _) ⟨(by show 2<=sizeLine;decide),[.int i s.toks,u],.cons ⟨_,rfl⟩ (.cons ru .nil),⟨_,tup2,rfl,_,rfl⟩⟩
  refine⟨.ref s.heap.objs.size,_,I2,rfl,⟨s.heap.objs.size,x,I.hok.fresh (Qj _),rfl,rfl,λys hy=>by rw[I.list_inj hy hq];exact hx⟩,⟨⟨u,?_⟩,(a2.extBut b2.extBut (Ne.symm hne))⟩,λb hb=>?_⟩
  ·have q:IsEnum h2 e it ((i:Int)+1) u:=b1;have c:(((i+1:Nat):Nat):Int)=(i:Int)+1:=by omega
   rw[c];exact q
  have z:b=e\/b=it:=by simpa using hb
  have nT:b≠s.heap.objs.size:=by
   rcases z with z|z
   ·rw[z];exact Ne.symm nTe
   rw[z];obtain⟨o,ho,_⟩:=hl;exact QF (Qo ho)
  rw[aq nT];exact(hf b hb).1
 done:=by
  intro X hP hw hK hc i pins s U H E I hf st hg;subst hP hw hK;obtain⟨xs,hq,hx⟩:=hg;obtain⟨its,rv,p,hz⟩:=I.list hq;obtain⟨⟨old,he⟩,hl⟩:=st;obtain⟨f0,f1,f2,f3,f4,f5⟩:=hf it (by simp);have hlen:=rv.length;exact wpAny_pyNext_enum_end (I.ok.hd hc) he hl p.isList (by simp;exact om4 hx hlen) λh' eb=>⟨rfl,I.turned (t':=s.toks) (λb o hb q=>eb b o hb q) f0 f1 f3 f4 f5⟩
 self:=λ_ _ _ _ _ st h=>by
  obtain⟨⟨old,he⟩,_⟩:=st;exact wpAny_pyIter_enum he h
section
variable {X:Cx} {elts:List Expr} {k:Nat} {tpos:Pos}
def yp (K:PySem.W.Frag) (ta:TA):TI:=λU H R=>ta U H λvs H1=>∃a,vs=[.ref a]/\(∃xs,SqL K H1 a xs)/\R (Ite K a) H1
theorem oN {a:Expr} {ta:TA} {p pos:Pos} (hg:Gl X "enumerate") (hm:X.mg "enumerate" = none) (ha:PA X [a] ta) (hs:starEach [a] X.env=[(false,eval a X.env)]:=by rfl):PI X (.Tuple elts k tpos) (.Call (.Name "enumerate" p) [a] [] pos) (yp X.K ta):=by
 intro pins s U H R I h;refine Call_ (cr I hg hm boot_enumerate (Q9 (thn (ha pos pins s U H _ I h) λus s1 ⟨vs,H1,I1,r1,q1⟩=>?_) hs rfl));obtain⟨l,e,⟨xs,hq⟩,q⟩:=q1;subst e
 cases r1 with
 | cons r rr =>
 cases rr;cases r;obtain⟨its,rv,pl,hz⟩:=I1.list hq;refine call_enumerate_list pl.isList λh' b1 b2 b3 b4=>?_;refine wpAny_pyIter_enum b1 ?_;have I2:Inv X pins U H1 { s1 with heap:=h' }:=I1.kept (t':=s1.toks) b4;refine⟨s1.heap.objs.size+1,[s1.heap.objs.size+1,s1.heap.objs.size],_,_,H1,rfl,I2,pS l (s1.heap.objs.size+1) s1.heap.objs.size (by show @Ne Nat _ _;exact om5),⟨⟨_,b1⟩,b2⟩,λb hb=>?_,q⟩;have z:b=s1.heap.objs.size+1\/b=s1.heap.objs.size:=by simpa using hb
 have hle:s1.heap.objs.size<=b:=by
  rcases z with z|z
  ·rw[z];exact XX _
  rw[z];exact Qj _
 exact I1.fpOk hle (I1.hok.fresh hle)
end
theorem lT {K:PySem.W.Frag} {xs:List V} {g:TG} {tb:TS} {D:Ends} {U:St} (Pv:Nat->St->Hp->Prop) (h0:Pv 0 U H) (hl:∀i U H,i<=xs.length->Pv i U H->SqL K H a xs)
  (hs:∀i x U H T,xs[i]?=some x->Pv i U H->H T=none->g (.ref T) U (upd H T (.tup [.int (i:Nat),x])) λσ2 H2=>tb { D with nx:=Pv (i+1),ct:=Pv (i+1),bk:=D.nx } σ2 H2) (hd:∀U H,Pv xs.length U H->D.nx U H) :
  ∃W:Nat->Nat->St->Hp->Prop,(∃m,W 0 m U H)/\∀i m U H,W i m U H ->
   ((Ite K a).stop i H/\D.nx U H)\/((Ite K a).go i H/\∃N:St->Hp->Prop,(∀σ' H',N σ' H'->∃m',m'<m/\W (i+1) m' σ' H')/\∀x H',(Ite K a).yld i H x H'->g x U H' λσ2 H2=>tb { D with nx:=N,ct:=N,bk:=D.nx } σ2 H2):=by
 refine⟨λi m U H=>m=xs.length-i/\i<=xs.length/\Pv i U H,⟨xs.length,by simp,QU _,h0⟩,?_⟩;rintro i m U H ⟨rfl,hi,p⟩;have q:=hl i U H hi p;by_cases hlt:i<xs.length
 ·refine .inr ⟨⟨xs,xs[i],q,by simp[hlt]⟩,Pv (i+1),λσ' H' p'=>⟨xs.length-(i+1),by exact om6 hlt,rfl,hlt,p'⟩,λx H' y=>?_⟩;obtain⟨T,v,hT,ex,eH,y⟩:=y;subst ex eH;exact hs i v U H T (y xs q) p hT
 have e:i=xs.length:=by exact om0 hi hlt
 subst e;exact .inl ⟨⟨xs,q,Qj _⟩,hd U H p⟩
structure Fn (P:Program) (w:World) (K:PySem.W.Frag) (mg:A2) (base:Heap) (x:Str) (ps:List Str) (k:Nat) (sp:Sp):Prop where
 ex:∃f fd,FnOk P w K mg base CX0 k f fd ps sp/\mg x=some (.ref f)/\PySem.W.keepIn K (.ref f)=true/\iB K fd ps []
section
variable {X:Cx}
theorem xT {x:Str} {ps:List Str} {k:Nat} {sp:Sp} {e:Expr} {es:List Expr} {t:TA} {p pos:Pos} (F:Fn X.prog X.w X.K X.mg X.base x ps k sp) (hr:Room k X.A) (hg:Gl X x) (ha:PA X (e::es) t)
  (hdb:(x==("__debug__" : Str))=false:=by decide) (he:starEach (e::es) X.env=(false,eval e X.env)::starEach es X.env:=by rfl) (hpl:(backTo pos (starEach es X.env)).any (·.1)=false:=by rfl) :
  PE X (.Call (.Name x p) (e::es) [] pos) (nZ sp [] E0 t):=by
 obtain⟨f,fd,G,hm,hk,hb⟩:=F.ex;exact uw G hr hg hm hk hb .nil xU ha hdb he hpl
theorem aJ {x:Str} {ps:List Str} {k j:Nat} {sp:Sp} {e:Expr} {es:List Expr} {t:TA} {p pos:Pos} (F:Fn X.prog X.w X.K X.mg X.base x ps k sp) (hr:Room j X.A) (ha:PA X (e::es) t) (hk:k<=j:=by first|decide|omega) (hg:Gl X x:=by rfl) (hdb:(x==("__debug__" : Str))=false:=by decide) (he:starEach (e::es) X.env=(false,eval e X.env)::starEach es X.env:=by rfl) (hpl:(backTo pos (starEach es X.env)).any (·.1)=false:=by rfl):PE X (.Call (.Name x p) (e::es) [] pos) (nZ sp [] E0 t):=xT F (hr.mono hk) hg ha hdb he hpl
end
section
variable {U:St} {H:Hp} {Q:VK} {K:PySem.W.Frag}
variable {v x y:V}
theorem aY {i:Nat} (h:U[i]?=some (some v)) (q:Q v H):fA i U H Q:=⟨v,h,q⟩
theorem i_c (q:Q v H):tC v U H Q:=q
variable {ta tb te to ti tl:TE}
theorem i_op {r:R2} (q:ta U H λx H1=>tb U H1 λy H2=>r x y H2 Q):tOp r ta tb U H Q:=q
variable {i j:Int}
theorem i_rI0 {g:Int->Int->V} (q:Q (g i j) H):rI0 g (.int i) (.int j) H Q:=⟨i,j,rfl,rfl,q⟩
theorem i_rI {C:Int->Int->Prop} {g:Int->Int->V} (c:C i j) (q:Q (g i j) H):rI C g (.int i) (.int j) H Q:=⟨i,j,rfl,rfl,c,q⟩
theorem i_eq (h:uq x y=true) (q:Q (.bl (decide (x=y))) H):rEq x y H Q:=⟨h,q⟩
theorem i_ne (h:uq x y=true) (q:Q (.bl (!decide (x=y))) H):rNe x y H Q:=⟨h,q⟩
variable {R:Bool->Hp->Prop}
theorem i_test {t:TE} (q:t U H λx H'=>∃k,x=.bl k/\R k H'):rq t U H R:=q
theorem i_tB {t:TE} (q:t U H λx H'=>∃k,x=.bl k/\R k H'):tB t U H R:=q
theorem i_and {t u:TT} (q:t U H λc H1=>if c=true then u U H1 R else R false H1):xM t u U H R:=q
theorem i_or {t u:TT} (q:t U H λc H1=>if c=true then R true H1 else u U H1 R):tOr t u U H R:=q
theorem i_not {t:TT} (q:t U H λc H1=>R (!c) H1):xI t U H R:=q
theorem i_andV (q:ta U H λx H1=>∃c,x=.bl c/\if c=true then tb U H1 Q else Q (.bl false) H1):vG ta tb U H Q:=q
theorem i_orV (q:ta U H λx H1=>∃c,x=.bl c/\if c=true then Q (.bl true) H1 else tb U H1 Q):yH ta tb U H Q:=q
theorem i_notV (q:ta U H λx H1=>∃c,x=.bl c/\Q (.bl (!c)) H1):vD ta U H Q:=q
theorem i_ifE {t:TT} (q:t U H λc H1=>if c=true then ta U H1 Q else tb U H1 Q):tIf t ta tb U H Q:=q
theorem bf {R:List V->Hp->Prop} (q:R [] H):pW U H R:=q
theorem i_cons {tr:TA} {R:List V->Hp->Prop} (q:te U H λx H1=>tr U H1 λxs H2=>R (x::xs) H2):fV te tr U H R:=q
theorem i_call {sp:Sp} {E:XK} {t:TA} (q:t U H λvs H1=>sp vs H1 Q E):nZ sp [] E t U H Q:=by
 show t U H λvs H1=>sp (vs++[]) H1 Q E;simpa only[List.append_nil] using q
theorem i_cb {r:List V->Hp->VK->Prop} {t:TA} (q:t U H λvs H1=>r vs H1 Q):tCB r t U H Q:=q
theorem i_tup {t:TA} (q:t U H λxs H1=>xs.length<=sizeLine/\∀p,H1 p=none->Q (.ref p) (upd H1 p (.tup xs))):rp t U H Q:=q
theorem i_lst {t:TA} (q:t U H λxs H1=>xs.length<=sizeLine/\∀p,H1 p=none->Q (.ref p) (upd H1 p (.lst xs))):ww t U H Q:=q
theorem i_bm {T:String} {r:V->List V->Hp->VK->Prop} {t:TA} (q:to U H λx H1=>tyV K T x H1/\t U H1 λxs H2=>r x xs H2 Q):tBM K T r to t U H Q:=q
theorem i_sl {r:V->Option Int->Option Int->Hp->VK->Prop} {tl th:TO} (q:te U H λx H1=>tl U H1 λl H2=>th U H2 λu H3=>r x l u H3 Q):tSl r te tl th U H Q:=q
theorem i_nopart {R:Option Int->Hp->Prop} (q:R none H):nV U H R:=q
theorem i_part {t:TE} {R:Option Int->Hp->Prop} (q:t U H λx H1=>∃i,x=.int i/\R (some i) H1):vC t U H R:=q
variable {xs:List V}
theorem i_ixL {p:Addr} {i:Int} {v:V} (h:SqL K H p xs) (e:atI xs i=some v) (q:Q v H):xS K (.ref p) (.int i) H Q:=⟨p,xs,i,v,rfl,rfl,h,e,q⟩
theorem i_ixT {p:Addr} (h:H p=some (.tup xs)) (e:atI xs i=some v) (q:Q v H):wF K (.ref p) (.int i) H Q:=⟨p,xs,i,v,rfl,rfl,SqT.of h,e,q⟩
theorem eL {z:Str} {c:Nat} (hz:z.length<=sizeLine) (e:atI z.cps.toList i=some c) (q:Q (.str ⟨#[c]⟩) H):wG (.str z) (.int i) H Q:=⟨z,i,c,rfl,rfl,hz,e,q⟩
variable {D:Ends}
theorem s_seq {t u:TS} (q:t { D with nx:=u D } U H):uf t u D U H:=q
theorem s_asg {g:TG} (q:te U H λx H1=>g x U H1 D.nx):rB te g D U H:=q
theorem aw {i:Nat} {R:St->Hp->Prop} (q:R (U.set i (some v)) H):dw i v U H R:=q
theorem s_drop (q:te U H λ_ H1=>D.nx U H1):vF te D U H:=q
theorem s_ret {te:TE} (q:te U H D.rt):xH te D U H:=q
theorem s_next (q:D.nx U H):vE D U H:=q
theorem s_if {c:TT} {t u:TS} (q:c U H λb H1=>if b=true then t D U H1 else u D U H1):xJ c t u D U H:=q
theorem s_sub {t:vq} {R:St->Hp->Prop} (q:to U H λo H1=>ti U H1 λi H2=>t o i v H2 λH3=>R U H3):yr to ti t v U H R:=q
theorem s_setL {p:Addr} {k:Int} {j:Nat} {R:Hp->Prop} (h:H p=some (.lst xs)) (e:ixN xs.length k=some j) (q:R (upd H p (.lst (xs.set j v)))):vR (.ref p) (.int k) v H R:=⟨p,xs,k,j,rfl,rfl,h,e,q⟩
theorem s_for {wi:TI} {g:TG} {tb:TS} (q:wi U H λJ H1=>∃W:Nat->Nat->St->Hp->Prop,(∃m,W 0 m U H1)/\∀i m U H,W i m U H ->
 (J.stop i H/\D.nx U H)\/(J.go i H/\∃N:St->Hp->Prop,(∀σ' H',N σ' H'->∃m',m'<m/\W (i+1) m' σ' H')/\∀x H',J.yld i H x H'->g x U H' λσ2 H2=>tb { D with nx:=N,ct:=N,bk:=D.nx } σ2 H2)):xL wi g tb D U H:=q
theorem s_rng1 {ta:TA} {R:It->Hp->Prop} (q:ta U H λvs H1=>∃j:Int,vs=[.int j]/\-(2 ^ 62)<=j/\j<2 ^ 62/\R (Itr 0 j.toNat) H1):v0 ta U H R:=q
theorem s_list {R:It->Hp->Prop} (q:tl U H λx H1=>∃a,x=.ref a/\(∃xs,SqL K H1 a xs)/\R (Itl K a) H1):ig K tl U H R:=q
theorem s_str {R:It->Hp->Prop} (q:tl U H λv H1=>∃z:Str,v=.str z/\R (Itf z.cps.size (fX z)) H1):yo tl U H R:=q
theorem bx {wi:TI} {g:TG} {tt:TT} {f:St->St} (q:wi U H λJ H1=>∀D,H1 D=none->∃W:Nat->Nat->Hp->List V->Prop,(∃m,W 0 m (upd H1 D (.lst [])) []) /\
 ∀i m H ys,W i m H ys->H D=some (.lst ys)/\((J.stop i H/\Q (.ref D) H)\/(J.go i H/\∀x H',J.yld i H x H'->g x (f U) H' λσ2 H2=>wk (f U) σ2/\tt σ2 H2 λb H3 =>
  if b=true then te σ2 H3 λv H4=>H4 D=some (.lst ys)/\ys.length<sizeLine/\∃m',m'<m/\W (i+1) m' (upd H4 D (.lst (ys++[v]))) (ys++[v])
  else ∃m',m'<m/\W (i+1) m' H3 ys))):fW wi g tt te f U H Q:=q
end
def dQ (Pv:Nat->Hp->List V->Prop) (n:Nat) (D:Addr) (i:Nat) (ys:List V):VK:=λv H4=>H4 D=some (.lst ys)/\ys.length<sizeLine/\∃m',m'<n-i/\(m'=n-(i+1)/\i+1<=n/\Pv (i+1) (upd H4 D (.lst (ys++[v]))) (ys++[v]))
theorem dQ.mk {Pv:Nat->Hp->List V->Prop} {D:Addr} {ys:List V} {v:V} (hd:H4 D=some (.lst ys)) (hi:i<n) (hl:ys.length<sizeLine) (p:Pv (i+1) (upd H4 D (.lst (ys++[v]))) (ys++[v])):dQ Pv n D i ys v H4 :=
 ⟨hd,hl,n-(i+1),by exact om6 hi,rfl,hi,p⟩
section
variable {K:PySem.W.Frag} {g:TG} {te:TE} {σ0:St} {QD:Hp->Prop} {H1:Hp} {D:Addr}
theorem nM {lo:Int} {n:Nat} (Pv:Nat->Hp->List V->Prop) (h0:Pv 0 (upd H1 D (.lst [])) []) (hD:∀i H ys,Pv i H ys->H D=some (.lst ys))
  (hs:∀i H ys,i<n->Pv i H ys->g (.int (lo+i)) σ0 H λσ2 H2=>wk σ0 σ2/\eP σ2 H2 λb H3=>if b=true then te σ2 H3 (dQ Pv n D i ys) else ∃m',m'<n-i/\(m'=n-(i+1)/\i+1<=n/\Pv (i+1) H3 ys)) (hd:∀H ys,Pv n H ys->QD H) :
  ∃W:Nat->Nat->Hp->List V->Prop,(∃m,W 0 m (upd H1 D (.lst [])) [])/\∀i m H ys,W i m H ys->H D=some (.lst ys)/\(((Itr lo n).stop i H/\QD H)\/((Itr lo n).go i H/\∀x H',(Itr lo n).yld i H x H'->g x σ0 H' λσ2 H2=>wk σ0 σ2/\eP σ2 H2 λb H3 =>
   if b=true then te σ2 H3 λv H4=>H4 D=some (.lst ys)/\ys.length<sizeLine/\∃m',m'<m/\W (i+1) m' (upd H4 D (.lst (ys++[v]))) (ys++[v]) else ∃m',m'<m/\W (i+1) m' H3 ys)):=by
 refine⟨λi m H ys=>m=n-i/\i<=n/\Pv i H ys,⟨n,by simp,QU _,h0⟩,?_⟩;rintro i m H ys ⟨rfl,hi,p⟩;refine⟨hD i H ys p,?_⟩;by_cases hlt:i<n
 ·refine .inr ⟨hlt,λx H' y=>?_⟩;obtain⟨e,y⟩:=y;subst e y;exact hs i _ ys hlt p
 have e:i=n:=by exact om0 hi hlt
 subst e;exact .inl ⟨Qj _,hd H ys p⟩
theorem jj {a:Addr} {xs:List V} (Pv:Nat->Hp->List V->Prop) (h0:Pv 0 (upd H1 D (.lst [])) []) (hD:∀i H ys,Pv i H ys->H D=some (.lst ys)/\SqL K H a xs)
  (hs:∀i x H ys,xs[i]?=some x->Pv i H ys->g x σ0 H λσ2 H2=>wk σ0 σ2/\eP σ2 H2 λb H3=>if b=true then te σ2 H3 (dQ Pv xs.length D i ys) else ∃m',m'<xs.length-i/\(m'=xs.length-(i+1)/\i+1<=xs.length/\Pv (i+1) H3 ys)) (hd:∀H ys,Pv xs.length H ys->QD H) :
  ∃W:Nat->Nat->Hp->List V->Prop,(∃m,W 0 m (upd H1 D (.lst [])) [])/\∀i m H ys,W i m H ys->H D=some (.lst ys)/\(((Itl K a).stop i H/\QD H)\/((Itl K a).go i H/\∀x H',(Itl K a).yld i H x H'->g x σ0 H' λσ2 H2=>wk σ0 σ2/\eP σ2 H2 λb H3 =>
   if b=true then te σ2 H3 λv H4=>H4 D=some (.lst ys)/\ys.length<sizeLine/\∃m',m'<m/\W (i+1) m' (upd H4 D (.lst (ys++[v]))) (ys++[v]) else ∃m',m'<m/\W (i+1) m' H3 ys)):=by
 refine⟨λi m H ys=>m=xs.length-i/\i<=xs.length/\Pv i H ys,⟨xs.length,by simp,QU _,h0⟩,?_⟩;rintro i m H ys ⟨rfl,hi,p⟩;obtain⟨d1,d2⟩:=hD i H ys p;refine⟨d1,?_⟩;by_cases hlt:i<xs.length
 ·refine .inr ⟨⟨xs,xs[i],d2,by simp[hlt]⟩,λx H' y=>?_⟩;obtain⟨e,y⟩:=y;subst e;exact hs i x _ ys (y xs d2) p
 have e:i=xs.length:=by exact om0 hi hlt
 subst e;exact .inl ⟨⟨xs,d2,Qj _⟩,hd H ys p⟩
theorem lZ {n:Nat} {f:Nat->V} (Pv:Nat->Hp->List V->Prop) (h0:Pv 0 (upd H1 D (.lst [])) []) (hD:∀i H ys,Pv i H ys->H D=some (.lst ys))
  (hs:∀i H ys,i<n->Pv i H ys->g (f i) σ0 H λσ2 H2=>wk σ0 σ2/\eP σ2 H2 λb H3=>if b=true then te σ2 H3 (dQ Pv n D i ys) else ∃m',m'<n-i/\(m'=n-(i+1)/\i+1<=n/\Pv (i+1) H3 ys)) (hd:∀H ys,Pv n H ys->QD H) :
  ∃W:Nat->Nat->Hp->List V->Prop,(∃m,W 0 m (upd H1 D (.lst [])) [])/\∀i m H ys,W i m H ys->H D=some (.lst ys)/\(((Itf n f).stop i H/\QD H)\/((Itf n f).go i H/\∀x H',(Itf n f).yld i H x H'->g x σ0 H' λσ2 H2=>wk σ0 σ2/\eP σ2 H2 λb H3 =>
   if b=true then te σ2 H3 λv H4=>H4 D=some (.lst ys)/\ys.length<sizeLine/\∃m',m'<m/\W (i+1) m' (upd H4 D (.lst (ys++[v]))) (ys++[v]) else ∃m',m'<m/\W (i+1) m' H3 ys)):=by
 refine⟨λi m H ys=>m=n-i/\i<=n/\Pv i H ys,⟨n,by simp,QU _,h0⟩,?_⟩;rintro i m H ys ⟨rfl,hi,p⟩;refine⟨hD i H ys p,?_⟩;by_cases hlt:i<n
 ·refine .inr ⟨hlt,λx H' y=>?_⟩;obtain⟨e,y⟩:=y;subst e y;exact hs i _ ys hlt p
 have e:i=n:=by exact om0 hi hlt
 subst e;exact .inl ⟨rfl,hd H ys p⟩
end
section
variable {H:Hp} {Q:VK} {K:PySem.W.Frag}
theorem ie {z:Str} {lo hi:Option Int} (h:z.length<=sizeLine) (q:Q (.str (Txt.slice z lo hi)) H):xP (.str z) lo hi H Q:=⟨z,rfl,h,q⟩
variable {xs zs:List V}
theorem vY {a:Addr} {lo hi:Option Int} (h:SqL K H a xs) (q:∀p,H p=none->Q (.ref p) (upd H p (.lst (j4 xs lo hi)))):xQ K (.ref a) lo hi H Q:=⟨a,xs,rfl,h,q⟩
theorem yL {x:V} {p:Addr} (h:SqL K H p xs) (fx:bZ x=true) (fs:xs.all bZ=true) (q:Q (.bl (inV x xs)) H):rIn K false x (.ref p) H Q:=⟨p,xs,rfl,.inl h,fx,fs,q⟩
theorem eM {l b:Addr} (h1:H l=some (.lst xs)) (h2:H b=some (.lst zs)) (hz:xs.length+zs.length<=sizeLine) (q:∀p,H p=none->Q (.ref p) (upd H p (.lst (xs++zs)))):wJ (.ref l) (.ref b) H Q:=⟨l,b,xs,zs,rfl,rfl,h1,h2,hz,q⟩
theorem d0 {l:Addr} {xs:List V} {y:V} (h:H l=some (.lst xs)) (hz:xs.length<sizeLine) (q:Q .non (upd H l (.lst (xs++[y])))):oH (.ref l) [y] H Q:=⟨l,xs,y,rfl,rfl,h,hz,q⟩
theorem i_tyL {p:Addr} (h:H p=some (.lst xs)):tyV K "list" (.ref p) H:=.inl ⟨rfl,xs,SqL.of h⟩
end
theorem aC {p:Addr} {o:HO} (hp:H p=none):ak H (upd H p o):=λb u e=>by rw[aq (aA e hp)];exact e
end L2
namespace L2
open PySem
section
variable {U:St} {H:Hp} {D:Ends}
theorem s_seqT {t u:TS} (q:let D':Ends:={ D with nx:=u D };t D' U H):uf t u D U H:=q
theorem s_nameT {i:Nat} {v:V} {R:St->Hp->Prop} (q:let σ':St:=U.set i (some v);R σ' H):dw i v U H R:=q
end
variable {H:Hp}
theorem i_yes {U:St} {R:Bool->Hp->Prop} (q:R true H):eP U H R:=q
theorem i_dget {td ty:TE} {U:St} {Q:VK} (q:td U H λx H1=>ty U H1 λy H2=>∃a v,x=.ref a/\dj H2 a y (some v)/\Q v H2):rz td ty U H Q:=q
theorem i_un {r:V->Hp->VK->Prop} {ta:TE} {U:St} {Q:VK} (q:ta U H λx H1=>r x H1 Q):tUn r ta U H Q:=q
theorem i_rU {g:Int->V} {i:Int} {Q:VK} (q:Q (g i) H):rU g (.int i) H Q:=⟨i,rfl,q⟩
end L2
namespace L2
open PySem PySem.Spec PyProof.Rows
def ip (H:Hp) (c:Addr):Hp:=λb=>if b=c then none else H b
variable {c b cell fa a T:Addr} {H H':Hp}
theorem eF:ip H c c=none:=Qs rfl
theorem bQ (h:b≠c):ip H c b=H b:=Qq h
theorem qT {o:HO} (h:ip H c b=some o):b≠c/\H b=some o:=by
 by_cases e:b=c
 ·subst e;rw[eF]at h;cases h
 rw[bQ e]at h;exact⟨e,h⟩
def mC (o:Obj):HO:=.frz o (.ext λ_=>True)
section
variable {P:Program} {w:World} {H H1:Hp} {h h1:Heap} {c:Addr} {o:Obj} {fs ex:A3}
theorem vk {H:Hp} (e:h.get? c=some o):a_ P w H h c (mC o):=⟨e,trivial,⟨o,e⟩,λ_ _ _ _=>trivial⟩
theorem HOk.drop (x:HOk P w H h) (hc:H c=some (mC o)):HOk P w (ip H c) h:=λb u e=>by
 obtain⟨_,e⟩:=qT e;refine(x b u e).stay (λ_ _ _ q=>q) (λd q=>?_) λd xs q=>?_
 ·rw[bQ];exact q;intro z;subst z;rw[hc]at q;cases q
 rw[bQ];exact q;intro z;subst z;rw[hc]at q;cases q
theorem HOk.take (x:HOk P w H h) (hc:H c=none) (e:h.get? c=some o):HOk P w (upd H c (mC o)) h:=λb u q=>by
 by_cases hb:b=c
 ·subst hb;rw[ah]at q;cases q;exact vk e
 rw[aq hb]at q;refine(x b u q).stay (λ_ _ _ r=>r) (λd r=>?_) λd xs r=>?_
 ·rw[aq (aA r hc)];exact r
 rw[aq (aA r hc)];exact r
theorem Un.back (u:Un fs ex (ip H c) H1 h h1) (hc:H c=some (mC o)) (e:h.get? c=some o) (nf:c∉fs) (nx:c∉ex):Un fs ex H (upd H1 c (mC o)) h h1/\H1 c=none/\h1.get? c=some o:=by
 have h1c:=u.free c o e eF nx;have e1:=u.keep c o e eF nf nx;have ne:∀{b v},H b=some v->v≠mC o->b≠c:=λq n z=>by subst z;rw[hc]at q;cases q;exact n rfl
 have nn:∀{b},H b=none->b≠c:=λq z=>by subst z;rw[hc]at q;cases q
 refine⟨⟨λb ob q n hb hx=>?_,λb ob q n hb hx=>?_,λb ob q n hx=>?_,λb ob q hx=>u.there b ob q hx,λb xs q=>?_,λb ob v q=>?_,λb ps q=>?_⟩,h1c,e1⟩
 ·exact u.keep b ob q (by rw[bQ (nn n)];exact n) hb hx
 ·exact u.slot b ob q (by rw[bQ (nn n)];exact n) hb hx
 ·rw[aq (nn n)];exact u.free b ob q (by rw[bQ (nn n)];exact n) hx
 ·have nb:=ne q (λz=>by cases z);rw[aq nb];exact u.tups b xs (by rw[bQ nb];exact q)
 ·by_cases nb:b=c
  ·subst nb;rw[hc]at q;cases q;exact ah
  rw[aq nb];exact u.frzs b ob v (by rw[bQ nb];exact q)
 have nb:=ne q (λz=>by cases z);rw[aq nb];exact u.tbls b ps (by rw[bQ nb];exact q)
theorem Un.out (u:Un fs ex (upd H c (mC o)) H1 h h1) (k1:HOk P w H1 h1) (hc:H c=none) (e:h.get? c=some o) (nf:c∉fs):Un fs ex H (ip H1 c) h h1/\HOk P w (ip H1 c) h1/\H1 c=some (mC o):=by
 have h1c:=u.frzs c o _ ah;have e1:=(k1 c _ h1c).1;refine⟨⟨λb ob q n hb hx=>?_,λb ob q n hb hx=>?_,λb ob q n hx=>?_,λb ob q hx=>u.there b ob q hx,λb xs q=>?_,λb ob v q=>?_,λb ps q=>?_⟩,k1.drop h1c,h1c⟩
 ·by_cases nb:b=c
  ·subst nb;rw[e]at q;cases q;exact e1
  exact u.keep b ob q (by rw[aq nb];exact n) hb hx
 ·have nb:b≠c:=λz=>by subst z;exact nf hb
  exact u.slot b ob q (by rw[aq nb];exact n) hb hx
 ·by_cases nb:b=c
  ·subst nb;exact eF
  rw[bQ nb];exact u.free b ob q (by rw[aq nb];exact n) hx
 ·have nb:=aA q hc;rw[bQ nb];exact u.tups b xs (by rw[aq nb];exact q)
 ·have nb:=aA q hc;rw[bQ nb];exact u.frzs b ob v (by rw[aq nb];exact q)
 have nb:=aA q hc;rw[bQ nb];exact u.tbls b ps (by rw[aq nb];exact q)
end
structure Lm where
 qual:Str
 params:Arguments
 body:Expr
 scope:Scope
 pos:Pos
def yF (c:Addr) (qual:Str):HO:=.ext λh=>h.CodeRec (.ref c) qual
def yS (f:Addr) (l:Lm) (cl:List (Str × Addr)) (c:Addr):HO:=.ext λh=>∃pm ctv,h.get? f=some (PySem.W.kla_obj "<lambda>" l.qual l.params l.body l.scope cl pm c ctv)
def pE (l:Lm) (c:Addr):Array Value:=#[rawInt l.pos.line,rawInt l.pos.col,.ref c]
structure Made (T:Addr) (l:Lm) (cl:List (Str × Addr)) (H:Hp) (f c:Addr) (H':Hp):Prop where
 new:H f=none
 fn:H' f=some (yS f l cl c)
 code:H' c=some (yF c l.qual)
 tab:H' T=some (.tbl (pE l c))
 old:∀b o,H b=some o->b≠T->H' b=some o
def f7 (base:Heap) (mg:A2):Prop:=∃bm ob,mg "__builtins__" = some (.ref bm)/\bm≠builtinsNs/\bm≠mainGlobals/\base.get? bm=some ob/\ob.cls=.type "module" /\ ob.dict=some builtinsNs/\ob.data=.plain
section
variable {X:Cx}
end
structure LmScope (x y:Str) (sc:Scope):Prop where
 kind:sc.kind=.function
 co:sc.isCoroutine=false
 gen:sc.isGenerator=false
 par:sc.names.lookup x=some .local
 fre:sc.names.lookup y=some .free
 ne:x≠y
 nocell:∀z∈sc.names,z.2≠.cell
 only:∀z,sc.names.lookup z=some .free->z=y
def Calls (P:Program) (w:World) (K:PySem.W.Frag) (mg:A2) (base:Heap) (k:Nat) (f:Addr) (r:V->Hp->VK->Prop):Prop :=
 ∀(X:Cx),X.prog=P->X.w=w->X.K=K->X.mg=mg->X.base=base->kw CX0 X E0->Room k X.A->∀pins s U H vx u (Q:VK),Inv X pins U H s->aU vx u->r vx H Q->wpAny (model X.prog X.w) X.A (call (.ref f) [u]) (EP X pins U Q) X.xe s
variable {y x:Str}
theorem Inv.cellAt {X:Cx} {pins:A1} {s:Shared} {U:St} {i:Nat} {vy:V} (I:Inv X pins U H s) (hN:X.N[i]?=some y) (hi:U[i]?=some (some vy)) (hk:X.env.kindOf y=some .cell) (hv:Vis X.env.scope y) (hl:X.env.cells.lookup y=some cell) :
  ∃o uy,s.heap.get? cell=some o/\o.data=.cell (some uy)/\aU vy uy/\H cell=none:=by
 obtain⟨m,_,loc⟩:=I.loc;obtain⟨u,ru,lk⟩:=loc i y vy hN hi hv;rcases lk with⟨k,_⟩|⟨_,c,e,o,e1,e2⟩
 ·rw[hk]at k;cases k
 rw[hl]at e;cases e;exact⟨o,u,e1,e2,ru,I.freeC y cell hl⟩
structure FunC (K:PySem.W.Frag) (x qual:Str) (st:Stmt) (f:Addr) (fd:FuncData) (c:Addr):Prop where
 ex:∃oc od kV doc pm an ct osl,fd=PySem.W.fnOf x qual (cF st) (bV st) (av st) .none kV doc pm an (.ref c) ct/\K.lookup f=some ⟨oc,od,.func (PySem.W.fnOf x qual (cF st) (bV st) (av st) .none kV doc pm an (.ref c) ct),osl⟩/\PySem.W.codeIn K (.ref c) qual=true
section
variable {P:Program} {w:World} {K:PySem.W.Frag} {mg:A2} {base:Heap}
theorem FunC.ok {x qual:Str} {st:Stmt} {f c:Addr} {fd:FuncData} {N ps:List Str} {k:Nat} {sp:Sp} (F:FunC K x qual st f fd c) (S:FnScope N ps (av st)) (len:∀vs H Q E,sp vs H Q E->vs.length=ps.length)
  (hbody:∀(A:Around) (outer:List Env) (s:Shared) (H:Hp) (vs:List V) (Q:VK) (E:XK),Room k (A.deeper (envOfC qual (av st) s.heap.objs.size f (.ref c)))->sp vs H Q E ->
   ∃t,PSs (cxOf CX0 P w K mg base N qual (av st) f (.ref c) A outer s H E).nox (bV st) t/\t { nx:=λ_ H'=>Q .non H',rt:=Q } (start N vs) H):FnOk P w K mg base CX0 (k+1) f fd ps sp:=by
 obtain⟨oc,od,kV,doc,pm,an,ct,osl,rfl,lk,hcd⟩:=F.ex;refine v5 lk hcd S len λA outer s H vs Q E hr hsp=>?_;obtain⟨t,h,q⟩:=hbody A outer s H vs Q E hr hsp;exact⟨t,h.nox,q⟩
end
structure OnlyT (tabs:List (Addr × Addr)) (H:Hp):Prop where
 tab:∀q∈tabs,H q.2=some (.tbl #[])
 other:∀b,b∉tabs.map (·.2)->H b=none\/∃o xs,H b=some (.frz o (.lst xs))
theorem qH {P:Program} {w:World} {K:PySem.W.Frag} {mg mb:A2} {CX:CXT} {k:Nat} {fd:FuncData} {sp:Sp} {s₁:Shared} {vs:List Value} {ns:List Int} {tabs:List (Addr × Addr)}
  (KX:K.In s₁.heap) (hns:s₁.heap.Ns mainGlobals mg) (hb:s₁.heap.Ns builtinsNs mb) (hbb:∀x:Str,x ≠ "__name__" -> mb x=bootBuiltins x) (hlim:s₁.heap.NoLimit) (hg:s₁.gens=#[])
  (hbm:f7 s₁.heap mg) (hT:PySem.W.TabsAt tabs s₁.heap) (hTK:∀q∈tabs,K.lookup q.2=none)
  (ha:s₁.heap.get? a=some { cls:=.type "list", data:=.seq vs.toArray }) (hi:IntsAre vs ns) (hl:ns.length<=sizeLine) (hr:Room k callerA)
  (F:∀base:Heap,K.In base->base.Ns mainGlobals mg->f7 base mg->FnOk P w K mg base CX k fa fd [x] sp) (hbind:∀(s:Shared) (u:Value),BindsTo s fd ⟨[u],[]⟩ [(x,u)])
  (hsp:∀H:Hp,OnlyT tabs H->SqL K H a (ns.map V.int)->sp [.ref a] H (λv _=>v=.bl true) λ_ _ _=>False)
  (hCX:∀H e s',CX [] H s₁ (λ_ _ _=>False) e s'->False) :
  codeAny (model P w) callerA (.call (.ref fa) ⟨[.ref a],[]⟩) (λr s'=>r=.ok (.ret (.bool true))/\OldK s₁.heap s'.heap/\s'.os=s₁.os/\AllBare s'.gens) s₁:=by
 have rv:=iN hi;have lenV:=hi.length
 have naT:a∉tabs.map (·.2):=λq=>by
  obtain⟨r,hr,e⟩:=Qm.mp q;have e2:=(hT r hr).2;rw[e,ha]at e2;cases e2
 have core:∀H:Hp,OnlyT tabs H->SqL K H a (ns.map V.int)->HOk P w H s₁.heap->(∀b,H b≠none->b=a\/b∈tabs.map (·.2))->(H a≠none->K.lookup a=none) ->
   codeAny (model P w) callerA (.call (.ref fa) ⟨[.ref a],[]⟩) (λr s'=>r=.ok (.ret (.bool true))/\OldK s₁.heap s'.heap/\s'.os=s₁.os/\AllBare s'.gens) s₁:=by
  intro H hO hS hok hA hK;have base_of:∀{b:Addr} {o:Obj},s₁.heap.get? b=some o->H b=none->(iF s₁.heap H).get? b=some o:=λe n=>tK e n
  have noA:∀{b:Addr} {o:Obj},s₁.heap.get? b=some o->(∀ps n,o.data≠.seq ps n)->(∀ps,o.data≠.fields ps)->H b=none:=λ{b o} e d1 d2=>by
   cases q:H b with
   | none=>rfl
   | some u =>
   rcases hA b (by rw[q];simp) with e'|e'
   ·subst e';rw[ha]at e;cases e;exact absurd rfl (d1 _ _)
   obtain⟨r,hr,er⟩:=Qm.mp e';have e2:=(hT r hr).2;rw[er,e]at e2;cases e2;exact absurd rfl (d2 _)
  have nsK:∀{b:Addr} {m:A2},s₁.heap.Ns b m->(iF s₁.heap H).Ns b m:=λ{b m} ⟨o,es,ep,e,d,r⟩=>⟨o,es,ep,base_of e (noA e (λ_ _ z=>by rw[d]at z;cases z) (λ_ z=>by rw[d]at z;cases z)),d,r⟩
  have hKb:K.In (iF s₁.heap H):=λb o e=>base_of (KX b o e) (by
   cases q:H b with
   | none=>rfl
   | some u =>
   rcases hA b (by rw[q];simp) with e'|e'
   ·subst e';rw[hK (by rw[q];simp)]at e;cases e
   obtain⟨r,hr,er⟩:=Qm.mp e';have e2:=hTK r hr;rw[er,e]at e2
   cases e2)
  have hM:Mod K mg (iF s₁.heap H):=⟨hKb,nsK hns,⟨mb,nsK hb,hbb⟩,let ⟨mc,h1,h2⟩:=hlim;⟨mc,nsK h1,h2⟩⟩
  have hB:f7 (iF s₁.heap H) mg:=by
   obtain⟨bm,ob,b1,b2,b3,b4,b5,b6,b7⟩:=hbm;exact⟨bm,ob,b1,b2,b3,base_of b4 (noA b4 (λ_ _ z=>by rw[b7]at z;cases z) (λ_ z=>by rw[b7]at z;cases z)),b5,b6,b7⟩
  have e0:Env0 P w K mg (iF s₁.heap H) callerA [] s₁ H:=⟨rfl,hM,λb o e=>uM e,Nat.le_of_eq (qP _ _),trivial,λb hb=>absurd (show b∈([]:A3) from hb) (by simp),hok,.of_eq hg⟩;refine codeAny_mono ((F _ hKb (nsK hns) hB).run callerA [] s₁ H ⟨[.ref a],[]⟩ [.ref a] [.ref a] _ _ hr e0 (hbind s₁ (.ref a)) (.cons rfl .nil) (hsp H hO hS)) λr s' h=>?_
  cases r with
  | error e=>exact(hCX H e s' h).elim
  | ok fl =>
  cases fl with
  | next=>exact False.elim h
  | brk=>exact False.elim h
  | cont=>exact False.elim h
  | ret u =>
  obtain⟨v,H',os,bare,un,hok',r',q⟩:=h;have q':v=.bl true:=q;subst q';obtain rfl:u=Value.bool true:=r';refine⟨rfl,⟨λb o e=>?_,λb o e=>un.there b o e (by simp)⟩,os,bare⟩
  cases q:H b with
  | none=>exact .inl (un.keep b o e q (by intro z;exact absurd (show b∈([]:A3) from z) (by simp)) (by simp))
  | some u =>
  by_cases hb:b∈tabs.map (·.2)
  ·obtain⟨r,hr,er⟩:=Qm.mp hb;have t1:=hO.tab r hr;have e2:=(hT r hr).2;have ict:=((hT r hr).1.tab (hT r hr).2).isCodeTable;rw[er]at t1 e2 ict;rw[e]at e2;cases e2;obtain⟨more,t2⟩:=un.tbls b _ t1;have t3:s'.heap.get? b=some { cls:=.none,data:=.fields (#[]++more) }:=hok' b _ t2;exact .inr (.inl ⟨ict,rfl,#[],more,rfl,t3⟩)
  rcases hO.other b hb with z|⟨ob,xs,z⟩
  ·rw[q]at z;cases z
  have z2:=un.frzs b ob _ z;obtain⟨e1,_⟩:=hok b _ z;obtain⟨e2,_⟩:=hok' b _ z2;rw[e]at e1;cases e1;exact .inl e2
 let HT:Hp:=λb=>if b∈tabs.map (·.2) then some (.tbl #[]) else none
 have htab:∀b,b∈tabs.map (·.2)->s₁.heap.get? b=some (PySem.W.tabObj #[]):=λb hb=>by
  obtain⟨r,hr,er⟩:=Qm.mp hb;rw[<-er];exact(hT r hr).2
 cases hk:K.lookup a with
 | some o =>
  have e:=KX a o hk;rw[ha]at e;cases e;refine core HT ⟨λq hq=>Qs (Qm.mpr ⟨q,hq,rfl⟩),λb hb=>.inl (Qq hb)⟩ (.inr ⟨_,vs.toArray,_,hk,rfl,rfl,rfl,by rw[Qi,lenV];exact hl,by simpa using rv⟩) (λb u z=>?_) (λb z=>?_) λz=>absurd (Qq naT) z
  ·by_cases hb:b∈tabs.map (·.2)
   ·have z':=(Qs hb).symm.trans z;cases z';exact htab b hb
   have z':=(Qq hb).symm.trans z;cases z'
  by_cases hb:b∈tabs.map (·.2)
  ·exact .inr hb
  exact absurd (Qq hb) z
 | none =>
 let HA:Hp:=λb=>if b=a then some (.frz { cls:=.type "list", data:=.seq vs.toArray } (.lst (ns.map V.int))) else HT b;have hA1:HA a=some (.frz { cls:=.type "list", data:=.seq vs.toArray } (.lst (ns.map V.int))):=Qs rfl;have hA2:∀b,b≠a->HA b=HT b:=λb h=>Qq h;refine core HA ⟨λq hq=>?_,λb hb=>?_⟩ (.inl (.inr ⟨{ cls:=.type "list", data:=.seq vs.toArray },hA1⟩)) (λb u z=>?_) (λb z=>?_) λ_=>hk
 ·rw[hA2 _ λz=>naT (Qm.mpr ⟨q,hq,z⟩)];exact Qs (Qm.mpr ⟨q,hq,rfl⟩)
 ·by_cases hba:b=a
  ·subst hba;exact .inr ⟨_,_,hA1⟩
  rw[hA2 b hba];exact .inl (Qq hb)
 ·by_cases hba:b=a
  ·subst hba;rw[hA1]at z;cases z;exact⟨ha,by rw[Qc];exact hl,vs,_,rv,ha⟩
  rw[hA2 b hba]at z;by_cases hb:b∈tabs.map (·.2)
  ·have z':=(Qs hb).symm.trans z;cases z';exact htab b hb
  have z':=(Qq hb).symm.trans z;cases z'
 by_cases hba:b=a
 ·exact .inl hba
 rw[hA2 b hba]at z;by_cases hb:b∈tabs.map (·.2)
 ·exact .inr hb
 exact absurd (Qq hb) z
variable {loose:List Str}
theorem tZ {p:Program} {mean:ExcName->Option Value} {mg mb:A2} {h:Heap} (T:Top p loose mean mg mb h):f7 h mg:=by
 obtain⟨bm,ob,b1,b2,b3,b4,b5,b6⟩:=T.bmain;refine⟨bm,ob,b1,b2,λq=>?_,b3,b4,b5,b6⟩;obtain⟨o,es,ep,e,hd,_⟩:=T.g;rw[q,e]at b3;cases b3;rw[hd]at b6;cases b6
variable {l:PySem.W.OpenLaw}
theorem rc {n k:Nat} {q:Program} {XP:A2->Heap->Prop} {YP:World->Heap->Prop} {d:DefRec} {K:Params->PySem.W.Frag} {CX:World->CXT} {sp:World->Sp} (tabs:World->List (Addr × Addr))
  (hn:l.most=some n) (hn2:n<=sizeLine) (hdf:d.params.defaults=[]) (hr:Room k callerA)
  (hY:∀(w:World) (h:Heap),YP w h->(K w.params).In h) (hY2:∀(w:World) (h:Heap),YP w h->PySem.W.TabsAt (tabs w) h) (hTK:∀(w:World),∀q∈tabs w,(K w.params).lookup q.2=none)
  (F:∀(w:World) (mg:A2) (fa:Addr) (h:Heap),(K w.params).In h->h.Ns mainGlobals mg->mg d.name=some (.ref fa) ->
   ∃fd:FuncData,(∀(s:Shared) (u:Value),BindsTo s fd ⟨[u],[]⟩ [(x,u)]) /\
    ∀base:Heap,(K w.params).In base->base.Ns mainGlobals mg->f7 base mg->FnOk l.prog w (K w.params) mg base (CX w) k fa fd [x] (sp w))
  (hsp:∀(w:World) (H:Hp) (a:Addr) (ns:List Int),ns.length<=n->OnlyT (tabs w) H->SqL (K w.params) H a (ns.map V.int)->sp w [.ref a] H (λv _=>v=.bl true) λ_ _ _=>False)
  (hCX:∀(w:World) (H:Hp) (s:Shared) (e:Value) (s':Shared),CX w [] H s (λ_ _ _=>False) e s'->False) :
  PySem.W.WalkO q loose XP YP l.row.toRowW d [] (λf vs=>PySem.call f vs):=by
 refine Att.mh hn hdf λw s₀ s₁ mg mb fa o pm cd doc a vs ns G Y ho hd hcd hmg hobj hints hlen hg=>?_;have KX:=hY w _ Y;obtain⟨fd,hb,hF⟩:=F w mg fa _ KX G.T.g hmg;exact qH KX G.T.g G.T.b G.T.builtins G.T.nolimit hg (tZ G.T) (hY2 w _ Y) (hTK w) hobj hints (QK hlen hn2) hr hF hb (λH hO hS=>hsp w H a ns hlen hO hS) λH e s'=>hCX w H s₁ e s'
def nr (K:PySem.W.Frag) (ts:A3):List (Addr × Addr):=ts.flatMap λT=>(K.filter λp=>PySem.W.codeHdIn K p.1 T).map λp=>(p.1,T)
def fj (K:PySem.W.Frag) (ts:A3):Bool:=ts.all λT=>(K.any λp=>PySem.W.codeHdIn K p.1 T)&&(K.lookup T).isNone
variable {ts as:A3}
theorem hW {K:PySem.W.Frag} {q:Addr × Addr} (h:q∈nr K ts):q.2∈ts/\PySem.W.codeHdIn K q.1 q.2=true:=by
 obtain⟨T,hT,h⟩:=List.mem_flatMap.mp h;obtain⟨p,hp,rfl⟩:=Qm.mp h;exact⟨hT,(Q2.mp hp).2⟩
theorem nk {K:PySem.W.Frag} (ok:fj K ts=true) (hT:T∈ts):∃c,(c,T)∈nr K ts:=by
 have h:=Xb.mp ok T hT;rw[XJ]at h;obtain⟨p,hp,e⟩:=List.any_eq_true.mp h.1;exact⟨p.1,List.mem_flatMap.mpr ⟨T,hT,Qm.mpr ⟨p,Q2.mpr ⟨hp,e⟩,rfl⟩⟩⟩
theorem ng {K:PySem.W.Frag} (ok:fj K ts=true) (hT:T∈ts):K.lookup T=none:=by
 have h:=Xb.mp ok T hT;rw[XJ]at h;exact Option.isNone_iff_eq_none.mp h.2
theorem rf {n k:Nat} {q:Program} {XP:A2->Heap->Prop} {d:DefRec} {K:Params->PySem.W.Frag} {e:∀P,as=(K P).map (·.1)} {CX:World->CXT} {sp:World->Sp}
  (hn:l.most=some n) (hn2:n<=sizeLine) (hdf:d.params.defaults=[]) (hr:Room k callerA) (ok:∀w:World,fj (K w.params) ts=true)
  (F:∀(w:World) (mg:A2) (fa:Addr) (h:Heap),(K w.params).In h->h.Ns mainGlobals mg->mg d.name=some (.ref fa) ->
   ∃fd:FuncData,(∀(s:Shared) (u:Value),BindsTo s fd ⟨[u],[]⟩ [(x,u)]) /\
    ∀base:Heap,(K w.params).In base->base.Ns mainGlobals mg->f7 base mg->FnOk l.prog w (K w.params) mg base (CX w) k fa fd [x] (sp w))
  (hsp:∀(w:World) (H:Hp) (a:Addr) (ns:List Int),ns.length<=n->(∀T∈ts,H T=some (.tbl #[]))->SqL (K w.params) H a (ns.map V.int)->sp w [.ref a] H (λv _=>v=.bl true) λ_ _ _=>False)
  (hCX:∀(w:World) (H:Hp) (s:Shared) (e:Value) (s':Shared),CX w [] H s (λ_ _ _=>False) e s'->False) :
  PySem.W.WalkO q loose XP (PySem.W.kmHook K as e ts).says l.row.toRowW d [] (λf vs=>PySem.call f vs):=by
 refine rc (λw=>nr (K w.params) ts) hn hn2 hdf hr (λw h Y=>PySem.W.km_in_of Y) (λw h Y q hq=>?_) (λw q hq=>ng (ok w) (hW hq).1) F (λw H a ns h1 hO hS=>hsp w H a ns h1 (λT hT=>?_) hS) hCX
 ·obtain⟨h1,h2⟩:=hW hq;exact⟨PySem.W.codeHd_of_K (PySem.W.km_in_of Y) h2,PySem.W.km_tabs_of Y _ h1⟩
 obtain⟨c,hc⟩:=nk (ok w) hT;exact hO.tab _ hc
def Fz:HO->Prop
 | .dK _=>True
 | .dT _=>True
 | .lst _=>True
 | _=>False
def back (H:Hp) (a:Addr) (H':Hp):Hp:=λb=>if b=a then H a else H' b
theorem fT:back H a H' a=H a:=Qs rfl
theorem bW (h:b≠a):back H a H' b=H' b:=Qq h
section
variable {X:Cx} {pins:A1} {U σ':St} {H H':Hp} {s s':Shared} {a:Addr} {u:HO} {o:Obj}
theorem oD (r:Rd H a u):∃v,H a=some v:=by
 rcases r with r|⟨o,r⟩ <;> exact⟨_,r⟩
theorem vQ (r:Rd H a u) (f:Fz u):(∀xs,H a≠some (.tup xs))/\(∀ps,H a≠some (.tbl ps))/\(∀x,H a≠some (.own x))/\∀ob v,H a=some (.frz ob v)->v=u:=by
 rcases r with r|⟨o,r⟩
 ·refine⟨λxs z=>?_,λps z=>?_,λx z=>?_,λob v z=>?_⟩ <;> (rw[r]at z;cases z;exact f.elim)
 refine⟨λxs z=>?_,λps z=>?_,λx z=>?_,λob v z=>?_⟩ <;> (rw[r]at z;cases z);rfl
theorem Inv.freeze (I:Inv X pins U H s) (r:Rd H a u) (f:Fz u) (e:s.heap.get? a=some o):Inv X pins U (upd H a (.frz o u)) s:=by
 obtain⟨v,hv⟩:=oD r;obtain⟨n1,n2,n3,n4⟩:=vQ r f;have ne:∀{b},H b=none->b≠a:=λh z=>by rw[z,hv]at h;cases h
 have ok:=r.ok I.hok;refine⟨I.ok,I.os,I.bare,⟨I.base.keep,I.base.slot,λb ob q n hx=>?_,I.base.there,λb xs q=>?_,λb ob w q=>?_,λb ps q=>?_⟩,I.loc,I.cell,?_,λx c h=>?_,λp hp=>?_,λb w q=>?_,I.len⟩
 ·have:=I.base.free b ob q n hx;rw[aq (ne this)];exact this
 ·have:=I.base.tups b xs q;rw[aq (λz=>n1 xs (by rw[<-z];exact this))];exact this
 ·have z:=I.base.frzs b ob w q;by_cases hb:b=a
  ·subst hb;have ew:=n4 ob w z;subst ew;obtain⟨e1,_⟩:=I.hok b _ z;rw[e]at e1;cases e1;exact ah
  rw[aq hb];exact z
 ·obtain⟨more,z⟩:=I.base.tbls b ps q;exact⟨more,by rw[aq (λy=>n2 _ (by rw[<-y];exact z))];exact z⟩
 ·rw[aq (ne I.free)];exact I.free
 ·rw[aq (ne (I.freeC x c h))];exact I.freeC x c h
 ·obtain⟨p1,p2,p3,p4,p5⟩:=I.pin p hp;exact⟨p1,by rw[aq (ne p2)];exact p2,p3,p4,p5⟩
 have st:∀{b w},a_ X.prog X.w H s.heap b w->a_ X.prog X.w (upd H a (.frz o u)) s.heap b w:=λh=>h.stay (λ_ _ _ q=>q) (λd q=>by rw[aq (λz=>n3 _ (by rw[<-z];exact q))];exact q) λd xs q=>by rw[aq (λz=>n1 _ (by rw[<-z];exact q))];exact q
 by_cases hb:b=a
 ·subst hb;rw[ah]at q;cases q;exact⟨e,st ok⟩
 rw[aq hb]at q;exact st (I.hok b w q)
theorem Inv.thaw (I:Inv X pins U H s) (r:Rd H a u) (f:Fz u) (e:s.heap.get? a=some o) (J:Inv X pins σ' H' s') (h':H' a=some (.frz o u)):Inv X pins σ' (back H a H') s':=by
 obtain⟨v,hv⟩:=oD r;obtain⟨n1,n2,n3,n4⟩:=vQ r f;have ne:∀{b},H' b=none->b≠a:=λh z=>by rw[z,h']at h;cases h
 have ok:=J.hok a _ h';refine⟨J.ok,J.os,J.bare,⟨J.base.keep,J.base.slot,λb ob q n hx=>?_,J.base.there,λb xs q=>?_,λb ob w q=>?_,λb ps q=>?_⟩,J.loc,J.cell,?_,λx c h=>?_,λp hp=>?_,λb w q=>?_,J.len⟩
 ·have:=J.base.free b ob q n hx;rw[bW (ne this)];exact this
 ·have:=J.base.tups b xs q;rw[bW (λz=>by rw[z,h']at this;cases this)];exact this
 ·by_cases hb:b=a
  ·subst hb;rw[fT];exact I.base.frzs b ob w q
  rw[bW hb];exact J.base.frzs b ob w q
 ·obtain⟨more,z⟩:=J.base.tbls b ps q;exact⟨more,by rw[bW (λy=>by rw[y,h']at z;cases z)];exact z⟩
 ·rw[bW (ne J.free)];exact J.free
 ·rw[bW (ne (J.freeC x c h))];exact J.freeC x c h
 ·obtain⟨p1,p2,p3,p4,p5⟩:=J.pin p hp;exact⟨p1,by rw[bW (ne p2)];exact p2,p3,p4,p5⟩
 have st:∀{b w},a_ X.prog X.w H' s'.heap b w->a_ X.prog X.w (back H a H') s'.heap b w:=λh=>h.stay (λ_ _ _ q=>q) (λd q=>by rw[bW (λz=>by rw[z,h']at q;cases q)];exact q) λd xs q=>by rw[bW (λz=>by rw[z,h']at q;cases q)];exact q
 by_cases hb:b=a
 ·subst hb;rw[fT]at q;rcases r with r|⟨o2,r⟩
  ·rw[r]at q;cases q;exact st ok.2
  obtain⟨e2,_⟩:=I.hok b _ r;rw[e]at e2;cases e2;rw[r]at q;cases q;exact⟨ok.1,st ok.2⟩
 rw[bW hb]at q;exact st (J.hok b w q)
def xK (t:TE):TE:=λU H Q=>∃a u,Rd H a u/\Fz u/\∀o,t U (upd H a (.frz o u)) λv H'=>H' a=some (.frz o u)/\Q v (back H a H')
theorem wP {ex:Expr} {t:TE} (h:PE X ex t):PE X ex (xK t):=by
 intro pins s U H Q I q;obtain⟨a,u,r,f,q⟩:=q
 obtain⟨o,e⟩:∃o,s.heap.get? a=some o:=by
  rcases r with r|⟨o,r⟩
  ·have:=(I.hok a _ r)
   cases u with
   | lst xs=>obtain⟨_,_,_,_,e⟩:=this;exact⟨_,e⟩
   | dK kvs=>obtain⟨_,_,_,_,o,_,_,e,_⟩:=this;exact⟨_,e⟩
   | dT kvs=>obtain⟨_,_,_,_,o,_,_,e,_⟩:=this;exact⟨_,e⟩
   | _=>exact f.elim
  exact⟨o,(I.hok a _ r).1⟩
 refine XV (h pins s U _ _ (I.freeze r f e) (q o)) (λv s' z=>?_) λ_ _ z=>z;obtain⟨v',H',J,rv,h1,h2⟩:=z;exact⟨v',_,I.thaw r f e J h1,rv,h2⟩
end
theorem KV.len {κ:Type} {xs:List (κ × V)} {ys:List (κ × Value)} (r:KV xs ys):xs.length=ys.length:=Xo r
theorem KV.get {κ:Type}:∀{xs:List (κ × V)} {ys:List (κ × Value)} {i:Nat} {k:κ} {v:V},KV xs ys->xs[i]?=some (k,v)->∃u,ys[i]?=some (k,u)/\aU v u
 | _,_,_,_,_,.nil,e=>by simp at e
 | _,(k',u)::_,0,k,v,.cons r _,e=>by
  simp at e;subst e;obtain⟨r1,r2⟩:=r;have r1:k=k':=r1;subst r1;exact⟨u,rfl,r2⟩
 | _,_,i+1,k,v,.cons _ t,e=>by
  obtain⟨u,h1,h2⟩:=KV.get (i:=i) t (by simpa using e);exact⟨u,by simpa using h1,h2⟩
section
variable {X:Cx} {tg:Expr}
end
section
variable {X:Cx} {o e f:Expr} {apos cpos:Pos} {td ty tx:TE}
end
end L2
namespace Bf
section
variable {κ:Type} [DecidableEq κ]
inductive Reach (nx:κ->List κ) (s:κ):κ->Prop
 | start:Reach nx s s
 | step {a b:κ}:Reach nx s a->b∈nx a->Reach nx s b
variable {nx:κ->List κ} {s:κ}
theorem pigeon:∀(xs ys:List κ),xs.Nodup->(∀x∈xs,x∈ys)->xs.length<=ys.length
 | [],_,_,_=>QU _
 | x::xs,ys,nd,h=>by
  rw[QS]at nd;have hx:x∈ys:=h x Xu;have:=pigeon xs (ys.erase x) nd.2 λy hy=>(List.mem_erase_of_ne (λz:y=x=>nd.1 (by rw[<-z];exact hy))).mpr (h y (Qu _ hy));rw[List.length_erase_of_mem hx]at this;have:0<ys.length:=List.length_pos_of_mem hx;simp only[Xh];omega
end
end Bf
namespace L2
open PySem PySem.Spec PyProof.Rows
section
variable {X:Cx}
def wH:V->List V->Hp->VK->Prop:=λx vs H Q=>∃(l:Addr) (xs:List Str) (y:Str) (j:Nat),x=.ref l/\vs=[.str y]/\H l=some (.lst (xs.map V.str))/\xs[j]?=some y/\(∀m,m<j->xs[m]?≠some y)/\xs.length<=100000/\Q (.int j) H
theorem gY:MtR X "list.index" wH:=by
 intro pins s U H x vs v us Q I rx rv h;obtain⟨l,xs,y,j,rfl,rfl,hH,hj,hno,hz,q⟩:=h;cases rx;obtain⟨u,rfl,t,rfl⟩:=cT rv;obtain⟨z,its,n,r,hl,e⟩:=I.lstM hH;have sa:=dB r;have hlen:its.length=xs.length:=by rw[<-hl,Qc]
 have hjl:j<xs.length:=(Qf.mp hj).1
 have at':∀m (hm:m<its.toArray.size),isStrOf y its.toArray[m]=(xs[m]'(by rw[Qi]at hm;exact sD hlen hm)==y):=λm hm=>by
  rw[Qi]at hm;obtain⟨u,hu,ru⟩:=r.get (i:=m) (show (xs.map V.str)[m]?=some (.str (xs[m]'(by exact sD hlen hm))) from by rw[Qv,Qd (by exact sD hlen hm)];rfl);obtain⟨tu,eu⟩:=ru;subst eu
  have e2:its.toArray[m]=.str (xs[m]'(by exact sD hlen hm)) tu:=by
   have:=(Qf.mp hu).2;simpa using this
  rw[e2];rfl
 refine call_meets F.slot_list_index ⟨_,e,rfl⟩ F.entry_list_index (F.args_list_index_2 _ _) (MeetsSeq.list_index l its.toArray n (.str y t) (isStrOf y) (λv hv=>eq_isStrOf y t sa v (by simpa using hv)) j (by rw[Qi];exact sE hlen hjl) (by omega) ?_ (λm hm hmj=>?_)) ⟨e,?_⟩
 ·rw[at' j (by rw[Qi];exact sE hlen hjl)];have:=(Qf.mp hj).2;rw[this];simp
 ·rw[at' m hm];rw[Qi]at hm;have h1:=hno m hmj;rw[Qd (by exact sD hlen hm)]at h1;simpa using h1
 exact⟨.int j,H,I.tok _,⟨_,rfl⟩,q⟩
end
section
variable {X:Cx}
end
section
variable {X:Cx}
def oF (T:Addr):R2:=λx y H Q=>x=.ref T/\((y=.str "0" /\ Q (.str "1") H)\/(y=.str "1" /\ Q (.str "0") H))
theorem uX {T:Addr} (hT:gt X.K T [("0", .flat (.str "1")),("1", .flat (.str "0"))]):IxR X (oF T):=by
 intro value slice pins s U H x y v u Q I rx ry h hs;obtain⟨e1,h⟩:=h;subst e1;cases rx;have here:KTD.Here X.base s.heap T [("0", .flat (.str "1")),("1", .flat (.str "0"))]:=⟨KTD.text_of_look (get:=λa=>X.K.lookup a) (λa o e=>I.mod.kin a o e) hT,I.bk⟩;rcases h with⟨e,q⟩|⟨e,q⟩
 ·subst e;obtain⟨t,e⟩:=ry;subst e;refine KTD.item_textA here (by rfl) (by decide +kernel) ?_ hs;have e:decide (("0" : Str) = "0")=true:=by decide +kernel
  simp only[KTD.EachL,e,if_true];exact λt=>⟨.str "1", H,I.tok _,⟨_,rfl⟩,q⟩
 subst e;obtain⟨t,e⟩:=ry;subst e;refine KTD.item_textA here (by rfl) (by decide +kernel) ?_ hs;have e:decide (("1" : Str) = "0")=false:=by decide +kernel
 simp only[KTD.EachL,e,Qz,Xs];exact λ_ t=>⟨.str "0", H,I.tok _,⟨_,rfl⟩,q⟩
end
end L2
set_option maxHeartbeats 1000000
namespace Ks
open PySem PyProof.Rows PySem.W
def ev {α:Type} (c:Nat->Nat->Bool):KasT α->α
 | .ret a=>a
 | .ask i j k=>ev c (k (c i j))
theorem eD {α β:Type} (c:Nat->Nat->Bool) (f:α->KasT β):∀t:KasT α,ev c (t.bind f)=ev c (f (ev c t))
 | .ret _=>rfl
 | .ask i j k=>eD c f (k (c i j))
def Low {α:Type} (N:Nat):KasT α->Prop
 | .ret _=>True
 | .ask i j k=>i<N/\j<N/\∀b,Low N (k b)
theorem wp_of {α:Type} {N:Nat} {c:Nat->Nat->Bool} {cmp:Nat->Nat->(Bool->Shared->Prop)->Shared->Prop} {G:α->Shared->Prop} {s:Shared} (hc:∀i j,i<N->j<N->∀C:Bool->Shared->Prop,C (c i j) s->cmp i j C s) :
  ∀t:KasT α,Low N t->G (ev c t) s->t.kasWp cmp G s
 | .ret _,_,g=>g
 | .ask i j k,l,g=>hc i j l.1 l.2.1 _ (wp_of hc (k (c i j)) (l.2.2 _) g)
variable {N:Nat}
theorem Low.bind {α β:Type} {f:α->KasT β}:∀{t:KasT α},Low N t->(∀a,Low N (f a))->Low N (t.bind f)
 | .ret a,_,h=>h a
 | .ask i j k,l,h=>⟨l.1,l.2.1,λb=>Low.bind (l.2.2 b) h⟩
def Out {α:Type} (P:α->Prop):KasT α->Prop
 | .ret a=>P a
 | .ask _ _ k=>∀b,Out P (k b)
theorem Low.bindO {α β:Type} {P:α->Prop} {f:α->KasT β}:∀{t:KasT α},Low N t->Out P t->(∀a,P a->Low N (f a))->Low N (t.bind f)
 | .ret a,_,o,h=>h a o
 | .ask i j k,l,o,h=>⟨l.1,l.2.1,λb=>Low.bindO (l.2.2 b) (o b) h⟩
def Lt (N:Nat) (p:Array Nat):Prop:=∀x∈p.toList,x<N
theorem Lt.get {p:Array Nat} (h:Lt N p) (h0:0<N) (i:Nat):p.getD i 0<N:=by
 by_cases c:i<p.size
 ·have e:p.getD i 0=p[i]:=by simp[Array.getD,c]
  rw[e];exact h _ (Array.getElem_mem_toList c)
 have e:p.getD i 0=0:=by simp[Array.getD,c]
 rw[e];exact h0
theorem Lt.perm {p q:Array Nat} (h:Lt N p) (e:q.Perm p):Lt N q:=λx hx=>h x ((Array.perm_iff_toList_perm.mp e).mem_iff.mp hx)
section
variable {N:Nat} (h0:0<N)
include h0
theorem jM {p:Array Nat} (h:Lt N p):∀f n,Low N (kas_asc p f n)
 | 0,_=>trivial
 | f+1,n=>⟨h.get h0 _,h.get h0 _,λb=>by
   cases b with
   | true=>exact trivial
   | false=>exact jM h f (n+1)⟩
theorem fk:∀f (p:Array Nat) n q,Lt N p->Low N (kas_desc f p n q)/\Out (λr=>Lt N r.1) (kas_desc f p n q)
 | 0,p,n,q,h=>⟨trivial,h⟩
 | f+1,p,n,q,h=>by
  have a1:=fk f p (n+1) 0 h;have a2:=fk f _ (n+1) 0 (h.perm (mirror_perm p (n-(q+1)) n ((n-(n-(q+1))) / 2)));have a3:=fk f p (n+1) (q+1) h
  have hz:∀b,Low N (if b=true then (if q>0 then kas_desc f (kas_rev p (n-(q+1)) n) (n+1) 0 else kas_desc f p (n+1) 0) else KasT.ask (p.getD (n-1) 0) (p.getD n 0) λd=>if d=true then .ret (p,n,q) else kas_desc f p (n+1) (q+1)) /\
    Out (λr=>Lt N r.1) (if b=true then (if q>0 then kas_desc f (kas_rev p (n-(q+1)) n) (n+1) 0 else kas_desc f p (n+1) 0) else KasT.ask (p.getD (n-1) 0) (p.getD n 0) λd=>if d=true then .ret (p,n,q) else kas_desc f p (n+1) (q+1)):=λb=>by
   cases b with
   | true =>
    rw[Qs rfl];by_cases c:q>0
    ·rw[Qs c];exact a2
    rw[Qq c];exact a1
   | false =>
   rw[Qq Qp];refine⟨⟨h.get h0 _,h.get h0 _,λd=>?_⟩,λd=>?_⟩
   ·cases d with
    | true=>exact trivial
    | false=>exact a3.1
   cases d with
   | true=>exact h
   | false=>exact a3.2
  exact⟨⟨h.get h0 _,h.get h0 _,λb=>(hz b).1⟩,λb=>(hz b).2⟩
theorem ja {p:Array Nat} (h:Lt N p) (n nrem:Nat):Low N (kas_tail3 n nrem p)/\Out (λr=>Lt N r.2) (kas_tail3 n nrem p):=by
 have h':Lt N (kas_rev p 0 n):=h.perm (mirror_perm ..)
 have out:∀{t:KasT Nat},Out (λr:Nat × Array Nat=>Lt N r.2) (t.bind λm=>.ret (m,kas_rev p 0 n)):=by
  intro t
  induction t with
  | ret a=>exact h'
  | ask i j k ih=>exact λb=>ih b
 exact⟨(jM h0 h' _ _).bind λ_=>trivial,out⟩
theorem Out.bind {α β:Type} {P:α->Prop} {P':β->Prop} {f:α->KasT β}:∀{t:KasT α},Out P t->(∀a,P a->Out P' (f a))->Out P' (t.bind f)
 | .ret a,o,h=>h a o
 | .ask i j k,o,h=>λb=>Out.bind (o b) h
theorem lJ {p:Array Nat} (h:Lt N p) (n nrem:Nat):Low N (kas_descPart n nrem p)/\Out (λr=>Lt N r.2) (kas_descPart n nrem p):=by
 have d:=fk h0 (nrem-(n+1)) p (n+1) 0 h
 have z:∀r:Array Nat × Nat × Nat,Lt N r.1->Low N (if r.2.2>0 then kas_tail3 r.2.1 nrem (kas_rev r.1 (r.2.1-(r.2.2+1)) r.2.1) else kas_tail3 r.2.1 nrem r.1)/\Out (λr=>Lt N r.2) (if r.2.2>0 then kas_tail3 r.2.1 nrem (kas_rev r.1 (r.2.1-(r.2.2+1)) r.2.1) else kas_tail3 r.2.1 nrem r.1):=λr hr=>by
  split
  ·exact ja h0 (hr.perm (mirror_perm ..)) _ _
  exact ja h0 hr _ _
 exact⟨d.1.bindO d.2 λr hr=>(z r hr).1,Out.bind h0 d.2 λr hr=>(z r hr).2⟩
theorem qx {p:Array Nat} (h:Lt N p) (nrem:Nat):Low N (kas_count nrem p)/\Out (λr=>Lt N r.2) (kas_count nrem p):=by
 have z:∀n:Nat,Low N (if (n==nrem)=true then KasT.ret (n,p) else if n>1 then .ask (p.getD 0 0) (p.getD (n-1) 0) λc=>if c=true then .ret (n,p) else kas_descPart n nrem (kas_rev p 0 n) else kas_descPart n nrem p) /\
   Out (λr=>Lt N r.2) (if (n==nrem)=true then KasT.ret (n,p) else if n>1 then .ask (p.getD 0 0) (p.getD (n-1) 0) λc=>if c=true then .ret (n,p) else kas_descPart n nrem (kas_rev p 0 n) else kas_descPart n nrem p):=λn=>by
  split
  ·exact⟨trivial,h⟩
  split
  ·have q:=lJ h0 (h.perm (mirror_perm p 0 n ((n-0) / 2))) n nrem;refine⟨⟨h.get h0 _,h.get h0 _,λb=>?_⟩,λb=>?_⟩
   ·cases b with
    | true=>exact trivial
    | false=>exact q.1
   cases b with
   | true=>exact h
   | false=>exact q.2
  exact lJ h0 h n nrem
 have all:∀{t:KasT Nat},Out (λ_=>True) t:=by
  intro t
  induction t with
  | ret a=>exact trivial
  | ask i j k ih=>exact λb=>ih b
 exact⟨(jM h0 h _ _).bind λn=>(z n).1,Out.bind h0 all λn _=>(z n).2⟩
theorem fK {p:Array Nat} (h:Lt N p) (k:Nat):∀f l r,Low N (kas_place p k f l r)
 | 0,_,_=>trivial
 | f+1,l,r=>by
  unfold kas_place
  split
  ·exact trivial
  refine⟨h.get h0 _,h.get h0 _,λb=>?_⟩
  cases b with
  | true=>exact fK h k f _ _
  | false=>exact fK h k f _ _
theorem o8:∀f (p:Array Nat) k,Lt N p->Low N (kas_bin f p k)
 | 0,_,_,_=>trivial
 | f+1,p,k,h=>(fK h0 h k k 0 k).bind λl=>o8 f _ _ (h.perm (bubble_perm ..))
theorem low_sort:Low N (kas_sort N):=by
 have h:Lt N (List.range N).toArray:=λx hx=>by simpa using hx
 have q:=qx h0 h N;refine q.1.bindO q.2 λr hr=>?_
 split
 ·exact o8 h0 _ _ _ hr
 exact trivial
end
section
variable {O:KeyOrd} {K:Nat->O.α}
def at_ (K:Nat->O.α) (p:Array Nat) (i:Nat):O.α:=K (p.getD i 0)
def Up (K:Nat->O.α) (p:Array Nat) (m:Nat):Prop:=∀i j,i<=j->j<m->O.kle (at_ K p i) (at_ K p j)
def Dn (K:Nat->O.α) (p:Array Nat) (m:Nat):Prop:=∀i j,i<=j->j<m->O.kle (at_ K p j) (at_ K p i)
abbrev cb (K:Nat->O.α) (i j:Nat):Bool:=O.blt (K i) (K j)
theorem Up.one (p:Array Nat):Up K p 1:=λi j h1 h2=>by
 obtain rfl:j=0:=by omega
 obtain rfl:i=0:=by omega
 exact O.irrefl _
variable {n i j N:Nat}
theorem Up.more {p:Array Nat} (u:Up K p n) (h1:1<=n) (h:O.kle (at_ K p (n-1)) (at_ K p n)):Up K p (n+1):=λi j h2 h3=>by
 by_cases e:j=n
 ·subst e;by_cases e2:i=j
  ·subst e2;exact O.irrefl _
  exact KeyOrd.kle_trans (u i (j-1) (by omega) (by omega)) h
 exact u i j h2 (by omega)
theorem Dn.more {p:Array Nat} (u:Dn K p n) (h1:1<=n) (h:O.kle (at_ K p n) (at_ K p (n-1))):Dn K p (n+1):=λi j h2 h3=>by
 by_cases e:j=n
 ·subst e;by_cases e2:i=j
  ·subst e2;exact O.irrefl _
  exact KeyOrd.kle_trans h (u i (j-1) (by omega) (by omega))
 exact u i j h2 (by omega)
theorem xz {p:Array Nat}:∀f n,1<=n->Up K p n->Up K p (ev (cb K) (kas_asc p f n))/\n<=ev (cb K) (kas_asc p f n)/\ev (cb K) (kas_asc p f n)<=n+f /\
  (ev (cb K) (kas_asc p f n)<n+f->O.klt (at_ K p (ev (cb K) (kas_asc p f n))) (at_ K p (ev (cb K) (kas_asc p f n)-1)))
 | 0,n,_,u=>⟨u,Qj _,Qj _,λh=>absurd h (X6 _)⟩
 | f+1,n,h1,u=>by
  have st:ev (cb K) (kas_asc p (f+1) n)=ev (cb K) (if cb K (p.getD n 0) (p.getD (n-1) 0)=true then KasT.ret n else kas_asc p f (n+1)):=rfl;rw[st];clear st
  cases c:cb K (p.getD n 0) (p.getD (n-1) 0) with
  | true=>exact⟨u,Qj _,by show n<=n+(f+1);omega,λ_=>c⟩
  | false =>
  rw[Qq Qp];obtain⟨a1,a2,a3,a4⟩:=xz f (n+1) (by omega) (u.more h1 c);exact⟨a1,by omega,by omega,λh=>a4 (by omega)⟩
theorem pA (p:Array Nat) (hj:j<=p.size) (k:Nat):(kas_rev p i j).getD k 0=if (i<=k/\k<i+(j-i) / 2)\/(j-(j-i) / 2<=k/\k<j) then p.getD (i+j-1-k) 0 else p.getD k 0:=by
 have q:=getElem?_mirror (xs:=p) (i:=i) (j:=j) hj ((j-i) / 2) (by omega) k;unfold kas_rev;rw[QW,q]
 split
 ·rw[QW]
 rw[QW]
theorem oC {p:Array Nat} (hj:n<=p.size) {k:Nat} (hk:k<n):at_ K (kas_rev p 0 n) k=at_ K p (n-1-k):=by
 unfold at_;rw[pA p hj]
 split
 ·rw[Nat.zero_add]
 rename_i h
 have:n-1-k=k:=by omega
 rw[this]
theorem gI {p:Array Nat} {a n:Nat} (hj:n<=p.size) (h:∀i,a<=i->i<n->at_ K p i=at_ K p (n-1)) (k:Nat):at_ K (kas_rev p a n) k=at_ K p k:=by
 unfold at_;rw[pA p hj]
 split
 ·rename_i c
  show at_ K p _=at_ K p _;rw[h (a+n-1-k) (by omega) (by omega),h k (by omega) (by omega)]
 rfl
theorem Dn.up {p:Array Nat} (hj:n<=p.size) (d:Dn K p n):Up K (kas_rev p 0 n) n:=λi j h1 h2=>by
 rw[oC hj (by omega),oC hj h2];exact d _ _ (by omega) (by omega)
theorem Dn.congr {p q:Array Nat} (d:Dn K p n) (h:∀k,at_ K q k=at_ K p k):Dn K q n:=λi j h1 h2=>by rw[h,h];exact d i j h1 h2
def Seg (K:Nat->O.α) (p:Array Nat) (n q:Nat):Prop:=∀i,n-(q+1)<=i->i<n->at_ K p i=at_ K p (n-1)
theorem Seg.zero (p:Array Nat) (n:Nat):Seg K p n 0:=λi h1 h2=>by rw[show i=n-1 by omega]
theorem pH:∀f (p:Array Nat) n q,1<=n->Dn K p n->q+1<=n->Seg K p n q->n+f<=p.size ->
  (ev (cb K) (kas_desc f p n q)).1.Perm p/\Dn K (ev (cb K) (kas_desc f p n q)).1 (ev (cb K) (kas_desc f p n q)).2.1/\n<=(ev (cb K) (kas_desc f p n q)).2.1/\(ev (cb K) (kas_desc f p n q)).2.1<=n+f/\(ev (cb K) (kas_desc f p n q)).2.2+1<=(ev (cb K) (kas_desc f p n q)).2.1/\Seg K (ev (cb K) (kas_desc f p n q)).1 (ev (cb K) (kas_desc f p n q)).2.1 (ev (cb K) (kas_desc f p n q)).2.2
 | 0,p,n,q,h1,d,hq,sg,hz=>⟨.refl _,d,Qj _,Qj _,hq,sg⟩
 | f+1,p,n,q,h1,d,hq,sg,hz=>by
  have st:ev (cb K) (kas_desc (f+1) p n q)=ev (cb K) (if cb K (p.getD n 0) (p.getD (n-1) 0)=true then (if q>0 then kas_desc f (kas_rev p (n-(q+1)) n) (n+1) 0 else kas_desc f p (n+1) 0) else .ask (p.getD (n-1) 0) (p.getD n 0) λd=>if d=true then .ret (p,n,q) else kas_desc f p (n+1) (q+1)):=by
   conv=>lhs;unfold kas_desc
   rfl
  rw[st];clear st
  cases c:cb K (p.getD n 0) (p.getD (n-1) 0) with
  | true =>
   rw[Qs rfl];have k1:O.kle (at_ K p n) (at_ K p (n-1)):=KeyOrd.klt_asymm c;by_cases q0:q>0
   ·rw[Qs q0];have e:=gI (K:=K) (p:=p) (a:=n-(q+1)) (n:=n) (by omega) sg;obtain⟨a1,a2,a3,a4,a5,a6⟩:=pH f (kas_rev p (n-(q+1)) n) (n+1) 0 (by omega) ((d.more h1 k1).congr e) (by omega) (.zero _ _) (by rw[kas_rev,mirror_size];omega);exact⟨a1.trans (mirror_perm ..),a2,by omega,by omega,a5,a6⟩
   rw[Qq q0];obtain⟨a1,a2,a3,a4,a5,a6⟩:=pH f p (n+1) 0 (by omega) (d.more h1 k1) (by omega) (.zero _ _) (by omega);exact⟨a1,a2,by omega,by omega,a5,a6⟩
  | false =>
  rw[Qq Qp];have st:ev (cb K) (KasT.ask (p.getD (n-1) 0) (p.getD n 0) λd=>if d=true then .ret (p,n,q) else kas_desc f p (n+1) (q+1))=ev (cb K) (if cb K (p.getD (n-1) 0) (p.getD n 0)=true then .ret (p,n,q) else kas_desc f p (n+1) (q+1)):=rfl;rw[st];clear st
  cases c2:cb K (p.getD (n-1) 0) (p.getD n 0) with
  | true =>
   rw[Qs rfl];exact⟨.refl _,d,Qj _,QP _ _,hq,sg⟩
  | false =>
  rw[Qq Qp];have e:at_ K p n=at_ K p (n-1):=O.total _ _ c c2
  obtain⟨a1,a2,a3,a4,a5,a6⟩:=pH f p (n+1) (q+1) (by omega) (d.more h1 (by rw[e];exact O.irrefl _)) (by omega) (λi g1 g2=>by
   rw[Nat.add_sub_cancel];by_cases z:i=n
   ·rw[z]
   rw[e];exact sg i (by omega) (by omega)) (by omega)
  exact⟨a1,a2,by omega,by omega,a5,a6⟩
theorem rn {p:Array Nat} {n nrem:Nat} (h1:1<=n) (hn:n<=nrem) (hz:nrem<=p.size) (d:Dn K p n) :
  (ev (cb K) (kas_tail3 n nrem p)).2.Perm p/\Up K (ev (cb K) (kas_tail3 n nrem p)).2 (ev (cb K) (kas_tail3 n nrem p)).1/\1<=(ev (cb K) (kas_tail3 n nrem p)).1/\(ev (cb K) (kas_tail3 n nrem p)).1<=nrem:=by
 unfold kas_tail3;rw[eD];obtain⟨a1,a2,a3,_⟩:=xz (K:=K) (nrem-n) n h1 (d.up (by omega));exact⟨mirror_perm ..,a1,by show 1<=ev _ _;omega,by show ev _ _<=nrem;omega⟩
theorem vS {p:Array Nat} {n nrem:Nat} (h1:1<=n) (hn:n+1<=nrem) (hz:nrem<=p.size) (d:Dn K p (n+1)) :
  (ev (cb K) (kas_descPart n nrem p)).2.Perm p/\Up K (ev (cb K) (kas_descPart n nrem p)).2 (ev (cb K) (kas_descPart n nrem p)).1/\1<=(ev (cb K) (kas_descPart n nrem p)).1/\(ev (cb K) (kas_descPart n nrem p)).1<=nrem:=by
 unfold kas_descPart;rw[eD];obtain⟨a1,a2,a3,a4,a5,a6⟩:=pH (K:=K) (nrem-(n+1)) p (n+1) 0 (by omega) d (by omega) (.zero _ _) (by omega);have sz:=a1.size_eq;generalize ev (cb K) (kas_desc (nrem-(n+1)) p (n+1) 0)=r at *;obtain⟨p',m,q⟩:=r;dsimp only at *
 split
 ·have e:=gI (K:=K) (p:=p') (a:=m-(q+1)) (n:=m) (by omega) a6;obtain⟨b1,b2,b3,b4⟩:=rn (K:=K) (p:=kas_rev p' (m-(q+1)) m) (n:=m) (nrem:=nrem) (by omega) (by omega) (by rw[kas_rev,mirror_size];omega) (a2.congr e);exact⟨b1.trans ((mirror_perm ..).trans a1),b2,b3,b4⟩
 obtain⟨b1,b2,b3,b4⟩:=rn (K:=K) (p:=p') (n:=m) (nrem:=nrem) (by omega) (by omega) (by omega) a2;exact⟨b1.trans a1,b2,b3,b4⟩
theorem xw {p:Array Nat} {nrem:Nat} (h1:1<=nrem) (hz:nrem<=p.size) :
  (ev (cb K) (kas_count nrem p)).2.Perm p/\Up K (ev (cb K) (kas_count nrem p)).2 (ev (cb K) (kas_count nrem p)).1/\1<=(ev (cb K) (kas_count nrem p)).1/\(ev (cb K) (kas_count nrem p)).1<=nrem:=by
 unfold kas_count;rw[eD];obtain⟨a1,a2,a3,a4⟩:=xz (K:=K) (p:=p) (nrem-1) 1 (Qj _) (.one p);generalize ev (cb K) (kas_asc p (nrem-1) 1)=n at *
 split
 ·exact⟨.refl _,a1,a2,by show n<=nrem;omega⟩
 rename_i c
 have c:n≠nrem:=by simpa using c
 have lt:=a4 (by omega)
 split
 ·have st:ev (cb K) (KasT.ask (p.getD 0 0) (p.getD (n-1) 0) λc=>if c=true then .ret (n,p) else kas_descPart n nrem (kas_rev p 0 n))=ev (cb K) (if cb K (p.getD 0 0) (p.getD (n-1) 0)=true then .ret (n,p) else kas_descPart n nrem (kas_rev p 0 n)):=rfl;rw[st];clear st
  cases c2:cb K (p.getD 0 0) (p.getD (n-1) 0) with
  | true=>rw[Qs rfl];exact⟨.refl _,a1,a2,by show n<=nrem;omega⟩
  | false =>
  rw[Qq Qp]
  have eq0:∀i,i<n->at_ K p i=at_ K p (n-1):=λi hi=>by
   have k1:O.kle (at_ K p i) (at_ K p (n-1)):=a1 i (n-1) (by omega) (by omega);have k2:O.kle (at_ K p (n-1)) (at_ K p 0):=c2;exact KeyOrd.kle_antisymm k1 (KeyOrd.kle_trans k2 (a1 0 i (by omega) hi))
  have e:=gI (K:=K) (p:=p) (a:=0) (n:=n) (by omega) (λi _ h=>eq0 i h);have d:Dn K (kas_rev p 0 n) (n+1):=Dn.congr (p:=p) (Dn.more (λi j g1 g2=>by rw[eq0 i (by omega),eq0 j g2];exact O.irrefl _) a2 (KeyOrd.klt_asymm lt)) e;obtain⟨b1,b2,b3,b4⟩:=vS (K:=K) (p:=kas_rev p 0 n) (n:=n) (nrem:=nrem) a2 (by omega) (by rw[kas_rev,mirror_size];omega) d;exact⟨b1.trans (mirror_perm ..),b2,b3,b4⟩
 obtain rfl:n=1:=by omega
 exact vS (K:=K) (Qj _) (by omega) hz (Dn.more (λi j g1 g2=>by rw[show i=j by omega];exact O.irrefl _) (Qj _) (KeyOrd.klt_asymm lt))
theorem mU {p:Array Nat} {k:Nat} (u:Up K p k):∀f l r,l<=r->r<=k->r-l<=f->(∀i,i<l->O.kle (at_ K p i) (at_ K p k))->(∀i,r<=i->i<k->O.klt (at_ K p k) (at_ K p i)) ->
  ev (cb K) (kas_place p k f l r)<=k/\(∀i,i<ev (cb K) (kas_place p k f l r)->O.kle (at_ K p i) (at_ K p k))/\∀i,ev (cb K) (kas_place p k f l r)<=i->i<k->O.klt (at_ K p k) (at_ K p i)
 | 0,l,r,h1,h2,h3,b1,b2=>by
  obtain rfl:l=r:=by omega
  exact⟨h2,b1,b2⟩
 | f+1,l,r,h1,h2,h3,b1,b2=>by
  unfold kas_place;by_cases c:l>=r
  ·rw[Qs c];obtain rfl:l=r:=by omega
   exact⟨h2,b1,b2⟩
  rw[Qq c];have st:ev (cb K) (KasT.ask (p.getD k 0) (p.getD ((l+r) / 2) 0) λc=>if c=true then kas_place p k f l ((l+r) / 2) else kas_place p k f ((l+r) / 2+1) r)=ev (cb K) (if cb K (p.getD k 0) (p.getD ((l+r) / 2) 0)=true then kas_place p k f l ((l+r) / 2) else kas_place p k f ((l+r) / 2+1) r):=rfl;rw[st];clear st
  cases c2:cb K (p.getD k 0) (p.getD ((l+r) / 2) 0) with
  | true =>
   rw[Qs rfl];exact mU u f l ((l+r) / 2) (by omega) (by omega) (by omega) b1 λi g1 g2=>KeyOrd.klt_of_klt_of_kle c2 (u _ _ g1 g2)
  | false =>
  rw[Qq Qp];exact mU u f ((l+r) / 2+1) r (by omega) (by omega) (by omega) (λi g=>KeyOrd.kle_trans (u i ((l+r) / 2) (by omega) (by omega)) c2) b2
theorem u5 {p:Array Nat} {k d:Nat} (hk:k<p.size) (hd:d<=k) (i:Nat):at_ K (bubble p k d) i=if i=k-d then at_ K p k else if k-d<i/\i<=k then at_ K p (i-1) else at_ K p i:=by
 have q:=getElem?_bubble (xs:=p) hk d hd i;have e:∀j,at_ K p j=K (p[j]?.getD 0):=λj=>by rw[at_,QW]
 rw[e,e,e,at_,QW,q];by_cases c1:i=k-d
 ·rw[Qs c1,Qs c1]
 rw[Qq c1,Qq c1];by_cases c2:k-d<i/\i<=k
 ·rw[Qs c2,Qs c2]
 rw[Qq c2,Qq c2]
theorem yA:∀f (p:Array Nat) k,Up K p k->k+f<=p.size->(ev (cb K) (kas_bin f p k)).Perm p/\Up K (ev (cb K) (kas_bin f p k)) (k+f)
 | 0,p,k,u,_=>⟨.refl _,u⟩
 | f+1,p,k,u,hz=>by
  unfold kas_bin;rw[eD];obtain⟨a1,a2,a3⟩:=mU (K:=K) u k 0 k (QU _) (Qj _) (by omega) (λi h=>absurd h (Nat.not_lt_zero _)) (λi g1 g2=>absurd g2 (by omega));generalize ev (cb K) (kas_place p k k 0 k)=l at *;have gb:=u5 (K:=K) (p:=p) (k:=k) (d:=k-l) (by omega) (by omega);have el:k-(k-l)=l:=by omega
  rw[el]at gb
  have u':Up K (bubble p k (k-l)) (k+1):=λi j g1 g2=>by
   rw[gb i,gb j];by_cases i1:i=l
   ·rw[Qs i1];by_cases j1:j=l
    ·rw[Qs j1];exact O.irrefl _
    rw[Qq j1,Qs ⟨by omega,by omega⟩];exact KeyOrd.klt_asymm (a3 _ (by omega) (by omega))
   rw[Qq i1];by_cases i2:l<i/\i<=k
   ·rw[Qs i2,Qq (by omega),Qs ⟨by omega,by omega⟩];exact u _ _ (by omega) (by omega)
   rw[Qq i2];by_cases j1:j=l
   ·rw[Qs j1];exact a2 i (by omega)
   rw[Qq j1];by_cases j2:l<j/\j<=k
   ·rw[Qs j2];exact u _ _ (by omega) (by omega)
   rw[Qq j2];exact u _ _ g1 (by omega)
  obtain⟨b1,b2⟩:=yA f (bubble p k (k-l)) (k+1) u' (by rw[bubble_size];omega);exact⟨b1.trans (bubble_perm ..),by rw[show k+(f+1)=k+1+f by omega];exact b2⟩
theorem sort_ (h0:0<N):(ev (cb K) (kas_sort N)).Perm (List.range N).toArray/\Up K (ev (cb K) (kas_sort N)) N:=by
 unfold kas_sort;rw[eD];obtain⟨a1,a2,a3,a4⟩:=xw (K:=K) (p:=(List.range N).toArray) (nrem:=N) h0 (by simp);have sz:(ev (cb K) (kas_count N (List.range N).toArray)).2.size=N:=by rw[a1.size_eq];simp
 generalize ev (cb K) (kas_count N (List.range N).toArray)=r at *
 split
 ·have e:max r.1 1=r.1:=Nat.max_eq_left a3;rw[e];obtain⟨b1,b2⟩:=yA (K:=K) (N-r.1) r.2 r.1 a2 (by omega);exact⟨b1.trans a1,by rw[show r.1+(N-r.1)=N by omega]at b2;exact b2⟩
 exact⟨a1,by rw[show N=r.1 by omega];exact a2⟩
end
end Ks
namespace Tm
open PySem PySem.Spec PyProof.Rows
def yE (κ:PyProof.Rows.KeyKind) (kd:SortKind) (prog:Program) (w:World) (A:Around) (s:Shared):Prop :=
 ∀(E:A0) (x y:Value) (a b:κ.α) (Q:Bool->Shared->Prop),κ.keyOf x=some a->κ.keyOf y=some b->Q (κ.blt a b) s->wpAny (model prog w) A (keyLt' kd x y) Q E s
def kv (κ:PyProof.Rows.KeyKind) (p:Keyed):κ.α:=(κ.keyOf p.1).getD κ.dflt
def le (κ:PyProof.Rows.KeyKind) (p q:Keyed):Prop:=κ.kle (kv κ p) (kv κ q)
def leV (κ:PyProof.Rows.KeyKind) (u v:Value):Prop:=le κ (u,u) (v,v)
section
variable {prog:Program} {w:World} {A:Around} {E:A0} {s:Shared}
structure Can (prog:Program) (w:World) (up:Around->Prop) (κ:PyProof.Rows.KeyKind) (kd:SortKind) (h:Heap) (a:Addr) (vs:List Value):Prop where
 key:∀v∈vs,∃x,κ.keyOf v=some x
 lt:∀(A:Around) (s:Shared),up A->(∀b o,b≠a->h.get? b=some o->s.heap.get? b=some o)->yE κ kd prog w A s
 kind:2<=vs.length->∀(A:Around) (E:A0) (s:Shared) (Q:SortKind->Shared->Prop),(∀b o,b≠a->h.get? b=some o->s.heap.get? b=some o)->Q kd s->wpAny (model prog w) A (keyKind' vs.toArray) Q E s
variable {vs:List Value} {κ:PyProof.Rows.KeyKind}
theorem sx {p:Array Nat} (hp:p.Perm (List.range vs.length).toArray) (u:Ks.Up (O:=κ.toKeyOrd) (λi=>kv κ (vs.getD i Value.none,vs.getD i Value.none)) p vs.length) :
  (p.toList.map λi=>vs.getD i Value.none).Perm vs/\(p.toList.map λi=>vs.getD i Value.none).Pairwise (leV κ):=by
 have pl:p.toList.Perm (List.range vs.length):=by simpa using Array.perm_iff_toList_perm.mp hp
 have sz:p.size=vs.length:=by rw[hp.size_eq];simp
 refine⟨?_,?_⟩
 ·have e:vs=(List.range vs.length).map λi=>vs.getD i Value.none:=by
   refine List.ext_getElem (by simp) λi h1 h2=>?_;rw[List.getElem_map,List.getElem_range,Qr,Qd h1];rfl
  conv=>rhs;rw[e]
  exact pl.map _
 rw[QN,List.pairwise_iff_getElem];intro i j hi hj hij;have:=u i j (by omega) (by rw[Qg]at hj;omega);unfold Ks.at_ at this;rw[Qg]at hi hj;have e1:p.getD i 0=p.toList[i]:=by simp[Array.getD,hi]
 have e2:p.getD j 0=p.toList[j]:=by simp[Array.getD,hj]
 rw[e1,e2]at this;exact this
theorem uW {kd:SortKind} {G:Array Nat->Shared->Prop} (hL:yE κ kd prog w A s) (hk:∀v∈vs,∃x,κ.keyOf v=some x) (h0:0<vs.length)
  (h:∀p:Array Nat,(p.toList.map λi=>vs.getD i Value.none).Perm vs->(p.toList.map λi=>vs.getD i Value.none).Pairwise (leV κ)->G p s):(PySem.W.kas_sort vs.length).kasWp (PySem.W.kas_ask prog w A kd vs) G s:=by
 refine Ks.wp_of (N:=vs.length) (c:=Ks.cb (O:=κ.toKeyOrd) λi=>kv κ (vs.getD i Value.none,vs.getD i Value.none)) (λi j hi hj C hC=>?_) _ (Ks.low_sort h0) ?_
 ·have mem:∀i,i<vs.length->∃x,κ.keyOf (vs.getD i Value.none)=some x:=λi hi=>hk _ (by rw[Qr,Qd hi];exact Xi hi);obtain⟨a,ha⟩:=mem i hi;obtain⟨b,hb⟩:=mem j hj;refine hL _ _ _ a b _ ha hb ?_
  have e:Ks.cb (O:=κ.toKeyOrd) (λi=>kv κ (vs.getD i Value.none,vs.getD i Value.none)) i j=κ.blt a b:=by
   show κ.blt ((κ.keyOf (vs.getD i Value.none)).getD κ.dflt) ((κ.keyOf (vs.getD j Value.none)).getD κ.dflt)=_;rw[ha,hb];rfl
  rw[e]at hC;exact hC
 obtain⟨a1,a2⟩:=Ks.sort_ (O:=κ.toKeyOrd) (K:=λi=>kv κ (vs.getD i Value.none,vs.getD i Value.none)) h0;obtain⟨b1,b2⟩:=sx a1 a2;exact h _ b1 b2
variable {a b d:Addr}
theorem hX {up:Around->Prop} {kd:SortKind} {n:Nat} {P:Fin->Shared->Prop} (ho:s.heap.get? a=some (seqObj "list" vs.toArray n)) (c:Can prog w up κ kd s.heap a vs) (hu:up A) (hn:vs.length<64)
  (h:∀out:Array Value,out.toList.Perm vs->out.toList.Pairwise (leV κ)->P (.done (.ret .none)) { s with heap:=sortedHeap s.heap a vs out }):wpAny (model prog w) A (Builtin.«list.sort» ⟨[.ref a],[]⟩) P E s:=by
 rw[list_sort_plain];have ha:a<s.heap.objs.size:=Qo ho;refine Qa (listItems_at ho rfl (Qa (listUpdate_at ho rfl ?_)));obtain⟨e1,ho1⟩:∃e1,(s.heap.update a (Obj.mapSeq λ_=>#[])).get? a=some (seqObj "list" #[] e1):=⟨_,get?_update_seq ho (λ_=>#[])⟩;refine Qa (seqEpoch_at ho1 rfl (Qa (wpAny_newTuple (Qa (wpAny_newList (QT ?_))) (by rw[XY];show vs.length<=_;omega))))
 have keep:∀b o,b≠a->s.heap.get? b=some o->(((s.heap.update a (Obj.mapSeq λ_=>#[])).push (seqObj "tuple" vs.toArray 0)).push (seqObj "list" #[] 0)).get? b=some o:=λb o hb e =>
  Qb _ (Qb _ ((Xl _ _ (Ne.symm hb)).trans e))
 have ho6:(((s.heap.update a (Obj.mapSeq λ_=>#[])).push (seqObj "tuple" vs.toArray 0)).push (seqObj "list" #[] 0)).get? a=some (seqObj "list" #[] e1):=Qb _ (Qb _ ho1);show wpAny (model prog w) A _ P E { s with heap:=((s.heap.update a (Obj.mapSeq λ_=>#[])).push (seqObj "tuple" vs.toArray 0)).push (seqObj "list" #[] 0) };dsimp only;have zs:vs.toArray.size=vs.length:=by simp
 by_cases c2:vs.toArray.size<2
 ·rw[Qs c2,Qs c2];refine Qa (Qe ?_);rw[StateT.run_pure];refine Qa (Qe (Qa (seqEpoch_at ho6 rfl (Qa (listUpdate_at ho6 rfl ?_ (hsz2:=by rw[Array.size_map];show (pairsOf vs).size<=_;rw[pairsOf_size,XY];omega))))));simp only[bne_self_eq_false,Qz,Xs];have e:((vs.toArray.zip vs.toArray).map (·.2)).toList=vs:=by simp[List.map_snd_zip]
  have p1:(((vs.toArray.zip vs.toArray).map (·.2)).toList).Perm vs:=by rw[e]
  have p2:(((vs.toArray.zip vs.toArray).map (·.2)).toList).Pairwise (leV κ):=by
   rw[e]
   match vs,zs,c2 with
   | [],_,_=>exact List.Pairwise.nil
   | [v],_,_=>exact List.pairwise_singleton _ _
   | v::u::r,zs,c2=>exact absurd c2 (by simp)
  exact Qe (h _ p1 p2)
 rw[Qq c2,Qq c2];refine Qa (c.kind (by omega) _ _ _ _ keep ?_);have h2:2<=vs.length:=by omega
 refine Qa (XV (PySem.W.kat_run (κ:=kd) (ks:=vs) (vs:=vs) (G:=λp s'=>s'=_/\(p.toList.map λi=>vs.getD i Value.none).Perm vs/\(p.toList.map λi=>vs.getD i Value.none).Pairwise (leV κ))
  (Q:=λst' s'=>s'=_/\failedOf st'=none/\∃l:List Value,(arrOf st').map (·.2)=l.toArray/\l.Perm vs/\l.Pairwise (leV κ)) rfl h2 hn
  (λp st' s' a1 a2 a3 a4=>⟨a4.1,a3,_,PySem.W.kat_snds rfl a2,a4.2⟩) (uW (c.lt _ _ hu keep) c.key (by omega) λp q1 q2=>⟨rfl,q1,q2⟩)) ?_ λ_ _ e=>e)
 rintro⟨⟨⟩,st'⟩ s' ⟨rfl,hf,l,hl,q1,q2⟩;dsimp only;rw[hl];refine Qa (seqEpoch_at ho6 rfl (Qa (listUpdate_at ho6 rfl ?_ (hsz2:=by rw[Qi,q1.length_eq,XY];omega))));rw[hf];simp only[bne_self_eq_false,Qz,Xs];exact Qe (h _ q1 q2)
theorem dS {h:Heap} {out:Array Value} {o:Obj} (hb:b≠a) (e:h.get? b=some o):(sortedHeap h a vs out).get? b=some o:=by
 unfold sortedHeap;exact(Xl _ _ (Ne.symm hb)).trans (Qb _ (Qb _ ((Xl _ _ (Ne.symm hb)).trans e)))
theorem eI {h:Heap} {vs:List Value} {out:Array Value} {n:Nat} (e:h.get? a=some (seqObj "list" vs.toArray n)):∃m,(sortedHeap h a vs out).get? a=some (seqObj "list" out m):=by
 unfold sortedHeap;exact⟨_,get?_update_seq (Qb _ (Qb _ (get?_update_seq e (λ_=>#[])))) (λ_=>out)⟩
theorem pY {up:Around->Prop} {κ:Heap->PyProof.Rows.KeyKind} {kd:SortKind} {r:Value} {Q:A0} {G:Heap->List Value->Prop}
  (col:∀(A:Around) (E:A0) (R:List Value->Shared->Prop),A.handled=none->(∀h' tk vs,(∀b o,s.heap.get? b=some o->h'.get? b=some o)->s.heap.objs.size<=h'.objs.size->G h' vs->R vs { s with heap:=h',toks:=tk })->wpAny (model prog w) A (collect r) R E s)
  (hh:A.handled=none) (hu:up A.in1.in1) (can:∀h' vs D,(∀b o,s.heap.get? b=some o->h'.get? b=some o)->G h' vs->D=h'.objs.size->vs.length<64/\Can prog w up (κ h') kd (h'.push (seqObj "list" vs.toArray 0)) D vs)
  (h:∀D h' tk vs h1 (out:Array Value) m,(∀b o,s.heap.get? b=some o->h1.get? b=some o)->G h1 vs->(∀b o,h1.get? b=some o->h'.get? b=some o)->s.heap.objs.size<=D->h1.objs.size<=D->h'.get? D=some (seqObj "list" out m)->out.toList.Perm vs->out.toList.Pairwise (leV (κ h1))->Q (.ref D) { s with heap:=h',toks:=tk }) :
  wpAny (model prog w) A (call (.builtin "sorted") [r]) Q E s:=by
 refine Calls.call_function_entry kind_sorted plain_sorted entry_sorted (args_sorted1 _) ?_;unfold Builtin.«sorted»;refine Qa (m:=checkCount "sorted" 1 1 _) (Qe ?_);refine Qa (col A.in1 E _ hh λh1 tk vs k1 z1 g1=>?_);obtain⟨len,_⟩:=can h1 vs h1.objs.size k1 g1 rfl;refine Qa (wpAny_newList ?_ (by rw[XY];omega));obtain⟨_,cn⟩:=can h1 vs h1.objs.size k1 g1 rfl;have hoL:(h1.push (seqObj "list" vs.toArray 0)).get? h1.objs.size=some (seqObj "list" vs.toArray 0):=Qn _ rfl;refine Qa (QT (QZ (s:={ s with heap:=h1.push (seqObj "list" vs.toArray 0),toks:=tk }) slot_list_sort ⟨_,hoL,rfl⟩ entry_list_sort (hX hoL cn hu len λout p1 p2=>⟨_,rfl,?_⟩) (args_list_sort _)));obtain⟨m,at'⟩:=eI (vs:=vs) (out:=out) hoL;exact Qe ⟨_,rfl,h _ _ _ vs h1 out m k1 g1 (λb o e=>dS (QF (Qo e)) (Qb _ e)) z1 (Qj _) at' p1 p2⟩
theorem tW {T:String} {r:Addr} {n:Nat} {P:Nat->Value->Prop} {OK:Heap->Prop} {R:List Value->Shared->Prop} (K:PySem.W.KdlSrc prog w T r d n P OK) (hh:A.handled=none) (ok:OK s.heap) (hn:n<=sizeLine)
  (h:∀(g:Heap) (tk:Nat) (acc:Array Value),(∀b o,s.heap.get? b=some o->g.get? b=some o)->s.heap.objs.size<=g.objs.size->PySem.ItemsOf P acc n->R acc.toList { s with heap:=g,toks:=tk }):wpAny (model prog w) A (collect (.ref r)) R E s:=by
 obtain⟨l1,l2⟩:=K.there _ ok;unfold collect;refine Qa (wpAny_runValue (XB entry_proto_collect' ?_));rw[Xp PySem.F.plain_proto_collect _];refine Qa (XR (Qe ⟨plainId_quiet PySem.F.plain_list_iadd _,XB entry_list_iadd' ?_⟩));rw[Xp PySem.F.plain_list_iadd _]
 refine XV (PySem.W.kdl_extend (A:=A) (s:={ s with heap:=s.heap.push { cls:=.type "list", data:=.seq ([]:List Value).toArray } }) (R:=λq s'=>∃(g:Heap) (tk:Nat) (acc:Array Value) (c:Nat),q=.ok (.ret (.ref s.heap.objs.size))/\s'={ s with heap:=g,toks:=tk } /\
   (∀b o,s.heap.get? b=some o->g.get? b=some o)/\g.get? s.heap.objs.size=some { cls:=.type "list", dict:=none,data:=.seq acc c,slots:=#[] }/\PySem.ItemsOf P acc n)
  K hh (K.keep _ _ ok λb _ o e=>Qb _ e) s.heap.objs.size (X0 l1) (X0 l2) (.ref s.heap.objs.size) 0 (Qn _ rfl)
  (λg tk acc c k at' it=>⟨g,tk,acc,c,rfl,rfl,λb o e=>k b o (QF (Qo e)) (Qb _ e),at',it⟩) hn) (λfn s' x=>?_) λe s' x=>?_
 ·cases fn with
  | done f =>
   obtain⟨g,tk,acc,c,e,rfl,k,at',it⟩:=x;cases e;exact Qa (wpAny_load at' (Qe (h g tk acc k (Nat.le_of_lt (Qo at')) it)))
  | again c1 =>
   refine⟨x.1,codeAny_mono x.2 λq s2 y=>?_⟩;obtain⟨g,tk,acc,c,rfl,rfl,k,at',it⟩:=y;exact Qa (wpAny_load at' (Qe (h g tk acc k (Nat.le_of_lt (Qo at')) it)))
 obtain⟨_,_,_,_,z,_⟩:=x;cases z
end
end Tm
set_option maxHeartbeats 4000000
namespace Tm
open PySem PySem.Spec PyProof.Rows L2
def kb:Key->Key->Bool
 | .inl i,.inl j=>decide (i<j)
 | .inl _,.inr _=>true
 | .inr _,.inl _=>false
 | .inr x,.inr y=>decide (x.cps.toList<y.cps.toList)
def lb:List Key->List Key->Bool
 | [],[]=>false
 | [],_::_=>true
 | _::_,[]=>false
 | a::as,b::bs=>kb a b || (decide (a=b)&&lb as bs)
theorem ve {x y:Str} (e:x.cps.toList=y.cps.toList):x=y:=by cases x;cases y;exact congrArg Str.mk (Array.toList_inj.mp e)
theorem jP (a:Key):kb a a=false:=by
 cases a with
 | inl i=>exact Qy (Int.lt_irrefl _)
 | inr x=>exact Qy (List.lt_irrefl _)
theorem xh (a b:Key):kb a b=true\/a=b\/kb b a=true:=by
 cases a with
 | inl i =>
  cases b with
  | inl j =>
   rcases Int.lt_trichotomy i j with h|h|h
   ·exact .inl (QA h)
   ·exact .inr (.inl (by rw[h]))
   exact .inr (.inr (QA h))
  | inr y=>exact .inl rfl
 | inr x =>
 cases b with
 | inl j=>exact .inr (.inr rfl)
 | inr y =>
 by_cases h1:x.cps.toList<y.cps.toList
 ·exact .inl (QA h1)
 by_cases h2:y.cps.toList<x.cps.toList
 ·exact .inr (.inr (QA h2))
 exact .inr (.inl (by rw[ve (List.le_antisymm (List.not_lt.mp h2) (List.not_lt.mp h1))]))
theorem tj {a b c:Key} (h1:kb a b=true) (h2:kb b c=true):kb a c=true:=by
 cases a with
 | inl i =>
  cases c with
  | inr z=>rfl
  | inl k =>
  cases b with
  | inr y=>cases h2
  | inl j=>exact QA (Int.lt_trans (XQ h1) (XQ h2))
 | inr x =>
 cases b with
 | inl j=>cases h1
 | inr y =>
 cases c with
 | inl k=>cases h2
 | inr z=>exact QA (List.lt_trans (XQ h1) (XQ h2))
theorem jO:∀l:List Key,lb l l=false
 | []=>rfl
 | a::l=>by unfold lb;rw[jP,jO l];simp
theorem jN:∀x y:List Key,lb x y=true\/x=y\/lb y x=true
 | [],[]=>.inr (.inl rfl)
 | [],_::_=>.inl rfl
 | _::_,[]=>.inr (.inr rfl)
 | a::x,b::y=>by
  unfold lb;rcases xh a b with h|rfl|h
  ·exact .inl (by rw[h];rfl)
  ·rcases jN x y with h|rfl|h
   ·exact .inl (by rw[h];simp)
   ·exact .inr (.inl rfl)
   exact .inr (.inr (by rw[h];simp))
  exact .inr (.inr (by rw[h];rfl))
theorem dZ:∀{x y z:List Key},lb x y=true->lb y z=true->lb x z=true
 | [],_,[],h1,h2=>by cases h2':(‹List Key›) with
  | nil=>rw[h2']at h1;cases h1
  | cons _ _=>rw[h2']at h2;cases h2
 | [],_,_::_,_,_=>rfl
 | _::_,[],_,h1,_=>by cases h1
 | _::_,_::_,[],_,h2=>by cases h2
 | a::x,b::y,c::z,h1,h2=>by
  unfold lb at h1 h2 ⊢;rw[Bool.or_eq_true,XJ,decide_eq_true_eq] at *;rcases h1 with h1|⟨rfl,h1⟩
  ·rcases h2 with h2|⟨rfl,h2⟩
   ·exact .inl (tj h1 h2)
   exact .inl h1
  rcases h2 with h2|⟨rfl,h2⟩
  ·exact .inl h2
  exact .inr ⟨rfl,dZ h1 h2⟩
def leK (x y:List Key):Prop:=lb y x=false
theorem h_ {x y:List Key} (h1:leK x y) (h2:leK y x):x=y:=by
 rcases jN x y with h|h|h
 ·rw[h2]at h;cases h
 ·exact h
 rw[h1]at h;cases h
theorem qC (x y:List Key):leK x y\/leK y x:=by
 cases h:lb y x with
 | false=>exact .inl h
 | true =>
 refine .inr ?_
 cases h2:lb x y with
 | false=>exact h2
 | true=>have:=dZ h h2;rw[jO]at this;cases this
noncomputable def xg:PyProof.Rows.KeyOrd where
 α:=List Key
 blt:=lb
 irrefl:=jO
 trans _ _ _ h1 h2:=dZ h1 h2
 negTrans a b c h:=by
  rcases jN a b with h1|rfl|h1
  ·exact .inl h1
  ·exact .inr h
  exact .inr (dZ h1 h)
 total a b h1 h2:=h_ h2 h1
def sh1:Key->Bool
 | .inl _=>false
 | .inr _=>true
def sh2:Key ⊕ List Key->Bool ⊕ List Bool
 | .inl k=>.inl (sh1 k)
 | .inr ks=>.inr (ks.map sh1)
def flat:ax->List Key
 | []=>[]
 | .inl k::r=>k::flat r
 | .inr ks::r=>ks++flat r
theorem eB (a b:Key) (x y:List Key):lb (a::x) (b::y)=(kb a b || (decide (a=b)&&lb x y)):=rfl
theorem ny:∀{x y:List Key} {u v:List Key},x.length=y.length->lb (x++u) (y++v)=(lb x y || (decide (x=y)&&lb u v))
 | [],[],u,v,_=>by simp[lb]
 | a::x,b::y,u,v,h=>by
  rw[List.cons_append,List.cons_append,eB,eB,ny (by simpa using h)];by_cases e:a=b
  ·subst e;simp[jP]
  simp[e]
section
variable {prog:Program} {w:World} {A:Around} {E:A0} {s:Shared}
variable {R:A0}
theorem yj {x y:Key} {u v:Value} (e:sh1 x=sh1 y) (hx:dv x u=true) (hy:dv y v=true) (h:R (.bool (kb x y)) s):wpAny (model prog w) A (compareOp .Lt u v) R E s:=by
 rcases aN hx with⟨i,t,rfl,rfl⟩|⟨z,t,rfl,rfl⟩
 ·rcases aN hy with⟨j,t',rfl,rfl⟩|⟨z',t',rfl,rfl⟩
  ·exact lt_int h
  cases e
 rcases aN hy with⟨j,t',rfl,rfl⟩|⟨z',t',rfl,rfl⟩
 ·cases e
 exact PyProof.Rows.lt_str h
theorem uU {x y:List Key} {a b:Addr} {P:Fin->Shared->Prop} (e:x.map sh1=y.map sh1) (hx:IsTupleKey (az prog w) s.heap x a) (hy:IsTupleKey (az prog w) s.heap y b) (h:P (.done (.ret (.bool (lb x y)))) s) :
  wpAny (model prog w) A (Builtin.«tuple.__lt__» ⟨[.ref a,.ref b],[]⟩) P E s:=by
 have hTb:=hy.typeIs;obtain⟨oa,xs,na,hoa,_,hda,hia⟩:=hx;obtain⟨ob,ys,nb,hob,_,hdb,hib⟩:=hy;show wpAny _ _ (isInstance (.ref b) (.type "tuple") >>= _) _ _ s;refine Qa (wpAny_isInstance hTb isSubtype_tuple_tuple ?_);simp only[X5,Qz,Xs];refine Qa (wpAny_tupleItemsOf hoa hda ?_);refine Qa (wpAny_tupleItemsOf hob hdb ?_);refine Qa ?_
 have zz:xs.size=ys.size:=by
  have:=congrArg List.length e;rw[Qc,Qc,hia.length,hib.length,Qg,Qg]at this;exact this
 refine wpAny_forIn_list _
  (λrest r s'=>r.1=none/\s'=s/\∃x' y' xs' ys',rest=List.zip xs' ys'/\ItemsAre (az prog w) x' xs'/\ItemsAre (az prog w) y' ys'/\lb x' y'=lb x y/\x'.map sh1=y'.map sh1)
  _ ?_ ?_ _ _ ⟨rfl,rfl,x,y,xs.toList,ys.toList,rfl,hia,hib,rfl,e⟩
 ·rintro⟨u,v⟩ rest r s' ⟨hr,rfl,x',y',xs',ys',hz,hx',hy',hdec,hsh⟩
  cases hx' with
  | nil=>simp at hz
  | @cons k1 u' x'' xs'' h1 hx'' =>
  cases hy' with
  | nil=>simp at hz
  | @cons k2 v' y'' ys'' h2 hy'' =>
  simp only[List.zip_cons_cons,List.cons.injEq,Prod.mk.injEq]at hz;obtain⟨⟨rfl,rfl⟩,rfl⟩:=hz;rw[Qt,Qt]at hsh;injection hsh with s1 s2;refine Qa ((az prog w).eqBool (a:=k1) (b:=k2) h1 h2 ?_);by_cases hk:k1=k2
  ·subst hk;rw[QA rfl];simp only[X5,Qz,Xs];refine Qe ⟨rfl,rfl,x'',y'',xs'',ys'',rfl,hx'',hy'',?_,s2⟩;rw[<-hdec]
   conv=>rhs;unfold lb
   rw[jP];simp
  rw[Qy hk];simp only[Bool.not_false,if_true];have hf:lb x y=kb k1 k2:=by rw[<-hdec];unfold lb;simp[hk]
  rw[hf]at h;refine Qa (wpAny_rule (Qa ?_));refine yj s1 h1 h2 ?_;exact Qa (Qe (Qe (Qe h)))
 rintro⟨r1,r2⟩ s' ⟨hr,rfl,x',y',xs',ys',hz,hx',hy',hdec,hsh⟩;simp only at hr;subst hr;refine Qe ?_
 have e0:lb x y=false:=by
  rw[<-hdec]
  cases hx' with
  | nil=>cases hy' with
   | nil=>rfl
   | cons _ _=>cases hsh
  | cons _ _=>cases hy' with
   | nil=>cases hsh
   | cons _ _=>simp at hz
 rw[e0]at h;have:Builtin.Tuple.tupleCompareSizes .Lt xs.size ys.size=.bool false:=by rw[zz];simp[Builtin.Tuple.tupleCompareSizes]
 show P (.done (.ret (Builtin.Tuple.tupleCompareSizes .Lt xs.size ys.size))) s';rw[this];exact h
theorem wq {x y:List Key} {a b:Addr} (hu:A.units<cLine) (e:x.map sh1=y.map sh1) (hx:IsTupleKey (az prog w) s.heap x a) (hy:IsTupleKey (az prog w) s.heap y b) (h:R (.bool (lb x y)) s) :
  wpAny (model prog w) A (compareOp .Lt (.ref a) (.ref b)) R E s:=by
 show wpAny _ _ (richCompare .Lt _ _) _ _ _;exact wpAny_richCompare_same_room (op:=.Lt) hx.typeIs hy.typeIs F.slot_tuple_lt (QZ F.slot_tuple_lt hx.typeIs F.entry_tuple_lt (uU e hx hy ⟨_,rfl,(λe=>nomatch e),h⟩) (F.args_tuple_lt_2 _ _)) hu
theorem tm {x y:ax} {xs ys:List Value} {b:Bool} {Q:Bool->Shared->Prop} (hu:A.units<cLine) (hx:TK.Its (az prog w) s.heap x xs) (hy:TK.Its (az prog w) s.heap y ys) (e:x.map sh2=y.map sh2):∀i,(i=0->b=true->∃k r,x=.inl (.inr k)::r)->Q (lb (flat x) (flat y)) s ->
  PySem.W.KatLex prog w A b false Q (xs.zip ys) i s:=by
 induction hx generalizing y ys with
 | nil =>
  cases hy with
  | nil=>intro i _ q;exact PySem.W.kat_nil q
  | cons _ _=>cases e
 | @cons k1 u x' xs' h1 t1 ih =>
 cases hy with
 | nil=>cases e
 | @cons k2 v y' ys' h2 t2 =>
 intro i hb q;rw[Qt,Qt]at e;injection e with e1 e2;refine PySem.W.kat_cons (TK.it_eq (jJ prog w) hu h1 h2 (PySem.W.kat_go (λc=>PySem.W.kat_yes (ih t2 e2 _ (λz=>absurd z (Nat.succ_ne_zero _)) ?_)) (λc=>PySem.W.kat_no ?_)))
 ·obtain rfl:k1=k2:=by simpa using c
  have:lb (flat (k1::x')) (flat (k1::y'))=lb (flat x') (flat y'):=by
   cases k1 with
   | inl k=>show lb (k::flat x') (k::flat y')=_;rw[eB,jP];simp
   | inr ks=>show lb (ks++flat x') (ks++flat y')=_;rw[ny rfl,jO];simp
  rw[this]at q;exact q
 have ne:k1≠k2:=by simpa using c
 cases k1 with
 | inl k =>
  cases k2 with
  | inr js=>cases e1
  | inl j =>
  have hkj:k≠j:=λz=>ne (by rw[z]);have:lb (flat (.inl k::x')) (flat (.inl j::y'))=kb k j:=by show lb (k::flat x') (j::flat y')=_;rw[eB];simp[hkj]
  rw[this]at q;have e1:sh1 k=sh1 j:=Sum.inl.inj e1;by_cases c1:(b&&i==0)=true
  ·rw[c1];rw[XJ]at c1;obtain⟨k',r,ek⟩:=hb (by simpa using c1.2) c1.1;injection ek with ek _;injection ek with ek;subst ek;rcases aN (show dv (.inr k') u=true from h1) with⟨_,_,z,_⟩|⟨_,t,z,rfl⟩
   ·cases z
   cases z;rcases aN (show dv j v=true from h2) with⟨_,_,rfl,_⟩|⟨z',t',rfl,rfl⟩
   ·cases e1
   exact oneLt_str q
  rw[show (b&&i==0)=false by simpa using c1];exact PySem.W.kat_one _ _ (yj e1 h1 h2 q)
 | inr ks =>
 cases k2 with
 | inl j=>cases e1
 | inr js =>
 obtain⟨a1,rfl,g1⟩:=h1;obtain⟨a2,rfl,g2⟩:=h2;have e1:ks.map sh1=js.map sh1:=Sum.inr.inj e1;have len:ks.length=js.length:=by have:=congrArg List.length e1;simpa using this
 have hkj:ks≠js:=λz=>ne (by rw[z]);have:lb (flat (.inr ks::x')) (flat (.inr js::y'))=lb ks js:=by show lb (ks++flat x') (js++flat y')=_;rw[ny len];simp[hkj]
 rw[this]at q
 have c1:(b&&i==0)=false:=by
  cases c1:(b&&i==0) with
  | false=>rfl
  | true =>
  rw[XJ]at c1;obtain⟨k',r,ek⟩:=hb (by simpa using c1.2) c1.1;cases ek
 rw[c1];exact PySem.W.kat_one _ _ (wq hu e1 g1 g2 q)
end
def lO (bs:A3) (tk:Addr->ax):PyProof.Rows.KeyKind:={ xg with
 keyOf:=λv=>match v with
  | .ref b=>if b∈bs then some (flat (tk b)) else none
  | _=>none
 dflt:=[] }
theorem jd {bs:A3} {tk:Addr->ax} {v:Value} {k:List Key} (e:(lO bs tk).keyOf v=some k):∃b,v=.ref b/\b∈bs/\k=flat (tk b):=by
 have no:¬(none:Option (List Key))=some k:=λz=>nomatch z
 cases v with
 | ref b =>
  have e:(if b∈bs then some (flat (tk b)) else none)=some k:=e;by_cases c:b∈bs
  ·rw[Qs c]at e;exact⟨b,rfl,c,(QH e).symm⟩
  rw[Qq c]at e;cases e
 | _=>exact absurd e no
theorem fo {bs:A3} (tk:Addr->ax) {b:Addr} (h:b∈bs):(lO bs tk).keyOf (.ref b)=some (flat (tk b)):=Qs h
def Shp (b:Bool) (bs:A3) (tk:Addr->ax):Prop:=(∀a∈bs,∀c∈bs,(tk a).map sh2=(tk c).map sh2)/\∀a∈bs,if b=true then ∃k r,tk a=.inl (.inr k)::r else ∃k r,tk a=.inr k::r
section
variable {prog:Program} {w:World}
theorem bY {h h':Heap} {k:ax} {a:Addr} (x:TK.IsT (az prog w) h k a) (ks:∀b o,h.get? b=some o->o.cls=.type "tuple" -> h'.get? b=some o):TK.IsT (az prog w) h' k a:=by
 obtain⟨o,items,n,h1,h2,h3,h4⟩:=x;refine⟨o,items,n,ks _ _ h1 h2,h2,h3,h4.imp λk v q=>?_⟩
 cases k with
 | inl k=>exact q
 | inr ks' =>
 obtain⟨c,e,o,items,n,h1,h2,h3,h4⟩:=q;exact⟨c,e,o,items,n,ks _ _ h1 h2,h2,h3,h4⟩
theorem l_ {h:Heap} {a:Addr} {o:Obj} {bs:A3} {tk:Addr->ax} {b:Bool} (ho:h.get? a=some o) (hc:o.cls≠.type "tuple") (p:∀c∈bs,TK.IsT (az prog w) h (tk c) c) (sp:Shp b bs tk) :
  Can prog w (λA=>A.units<cLine) (lO bs tk) (tuples' b) h a (bs.map Value.ref) where
 key v hv:=by
  obtain⟨c,hc,rfl⟩:=Qm.mp hv;exact⟨_,fo tk hc⟩
 lt A s hu ks:=by
  intro E x y k1 k2 Q h1 h2 q;obtain⟨c1,rfl,m1,rfl⟩:=jd h1;obtain⟨c2,rfl,m2,rfl⟩:=jd h2;have kp:∀b o',h.get? b=some o'->o'.cls=.type "tuple" -> s.heap.get? b=some o':=λb o' e ec=>ks _ _ (λz=>by rw[z,ho]at e;cases e;exact hc ec) e;obtain⟨o1,i1,n1,g1,_,d1,t1⟩:=bY (p c1 m1) kp;obtain⟨o2,i2,n2,g2,_,d2,t2⟩:=bY (p c2 m2) kp;have e:=sp.1 _ m1 _ m2
  have ez:decide (i1.size<i2.size)=false:=by
   have l1:∀{k:ax} {vs:List Value},TK.Its (az prog w) s.heap k vs->k.length=vs.length:=by
    intro k vs q
    induction q with
    | nil=>rfl
    | cons _ _ ih=>simp[ih]
   have:=congrArg List.length e;rw[Qc,Qc,l1 t1,l1 t2,Qg,Qg]at this;rw[this];exact Qy (X6 _)
  refine PySem.W.kat_lt g1 d1 g2 d2 ?_;rw[ez];refine tm hu t1 t2 e 0 (λ_ hb=>?_) q;have:=sp.2 _ m1;rw[Qs hb]at this;exact this
 kind h2 A E s Q ks hq:=by
  have kp:∀b o',h.get? b=some o'->o'.cls=.type "tuple" -> s.heap.get? b=some o':=λb o' e ec=>ks _ _ (λz=>by rw[z,ho]at e;cases e;exact hc ec) e
  have all:∀{l:A3},(∀c∈l,c∈bs)->∃fs:List Value,fs.length=l.length/\PySem.W.KatTups s.heap (l.map Value.ref) fs/\∀f∈fs,PySem.W.Looks (model prog w) s.heap (typeOf f) (.type (if b=true then "str" else "tuple")):=by
   intro l
   induction l with
   | nil=>intro _;exact⟨[],rfl,.nil,λf hf=>nomatch hf⟩
   | cons c l ih =>
   intro hl;obtain⟨fs,z1,z2,z3⟩:=ih λc h=>hl c (Qu _ h);have hcb:=hl c (by simp);obtain⟨o1,i1,n1,g1,cl,d1,t1⟩:=bY (p c hcb) kp;have sp2:=sp.2 c hcb
   cases b with
   | true =>
    rw[Qs rfl]at sp2 ⊢;obtain⟨k,r,ek⟩:=sp2;rw[ek]at t1;generalize hv:i1.toList=vs at t1
    cases t1 with
    | @cons _ v _ vs h1 _ =>
    rcases aN (show dv (.inr k) v=true from h1) with⟨_,_,z,_⟩|⟨_,t,z,rfl⟩
    ·cases z
    refine⟨_::fs,by simp[z1],.cons g1 cl d1 (by rw[<-QV,hv];rfl) z2,λf hf=>?_⟩;rcases Qk.mp hf with rfl|hf
    ·exact PySem.W.Looks.of_pure rfl
    exact z3 f hf
   | false =>
   rw[Qq Qp]at sp2 ⊢;obtain⟨k,r,ek⟩:=sp2;rw[ek]at t1;generalize hv:i1.toList=vs at t1
   cases t1 with
   | @cons _ v _ vs h1 _ =>
   obtain⟨c',rfl,o2,i2,n2,g2,cl2,_⟩:=h1;refine⟨_::fs,by simp[z1],.cons g1 cl d1 (by rw[<-QV,hv];rfl) z2,λf hf=>?_⟩;rcases Qk.mp hf with rfl|hf
   ·exact λA Q E s' k q=>wpAny_typeOf_ref (k _ _ g2) (by rw[cl2];exact q)
   exact z3 f hf
  obtain⟨fs,l,kt,hf⟩:=all (l:=bs) λ_ h=>h;rw[Qc]at h2;refine PySem.W.kat_kind (T:=.type (if b=true then "str" else "tuple")) kt (by omega) hf (by cases b <;> decide) ?_;have:(Value.type (if b=true then "str" else "tuple") != Value.type "tuple")=b:=by cases b <;> decide
  rw[this];exact hq
end
end Tm
namespace LZ
open PySem
section
variable {prog:Program} {w:World} {A:Around} {E:A0} {s:Shared}
abbrev IsZ (h:Heap) (z TI TO:Addr) (f0:Value) (f1:Bool):Prop :=
 h.get? z=some { cls:=.type "zip", dict:=none,data:=.fields #[f0,.bool f1,.bool false,.ref TI,.ref TO],slots:=#[] }
structure Apart5 (z TI TO i1 i2 l:Addr):Prop where
 TIz:TI≠z
 TOz:TO≠z
 i1z:i1≠z
 i2z:i2≠z
 TITO:TI≠TO
 TIi1:TI≠i1
 TIi2:TI≠i2
 TOi1:TO≠i1
 TOi2:TO≠i2
 i12:i1≠i2
 lz:l≠z
 lTO:l≠TO
 li1:l≠i1
 li2:l≠i2
theorem t7 {a:Addr} {o:Obj} {Q:Option Obj->Shared->Prop} (ho:s.heap.get? a=some o) (h:Q (some o) s):wpAny (model prog w) A (loadIfAlive a) Q E s:=by
 have h':Q (s.heap.get? a) s:=by rw[ho];exact h
 exact λ_ _ _=>h'
variable {Q:Option Value->Shared->Prop}
theorem next_end {z TI TO i1 i2 l:Addr} {f0:Value} {f1:Bool} {k:Nat} {xs:Array Value} {a b:Value} (hh:A.handled=none) (D:Apart5 z TI TO i1 i2 l)
  (hz:IsZ s.heap z TI TO f0 f1) (hf:(f0=.none/\f1=false/\∃a b,IsPair s.heap TO a b)\/∃(T:Addr) (oT:Obj),f0=rawInt (T:Nat)/\s.heap.get? T=some oT) (hTI:IsPair s.heap TI (.ref i1) (.ref i2)) (h1:s.heap.IsListIter i1 l k) (hl:s.heap.IsList l xs) (hv:xs[k]?=none)
  (hQ:∀h',(∀c o,c≠z->c≠i1->s.heap.get? c=some o->h'.get? c=some o)->Q none { s with heap:=h' }):wpAny (model prog w) A (pyNext (.ref z)) Q E s:=by
 have hTy:s.TypeIs (.ref z) "zip" := ⟨_,hz,rfl⟩;unfold pyNext
 refine Qa (wpAny_attempt (Q7 (name:=Str.ofString "__next__") hTy X1
  (QZ X1 hTy F.entry_zip_next ?_ (F.args_zip_next_1 _))))
 show wpAny _ _ (field (.ref z) 2 >>= _) _ _ _;refine Qa (Q6 hz rfl (x:=.bool false) rfl ?_);show wpAny _ _ (field (.ref z) 3 >>= _) _ _ _;refine Qa (Q6 hz rfl (x:=.ref TI) rfl ?_);refine Qa (Xe hTI rfl ?_);show wpAny _ _ (Builtin.SmallTypes.ownedTupleIsFree (.ref z) >>= _) _ _ _;refine Qa ?_;unfold Builtin.SmallTypes.ownedTupleIsFree;refine Qa (Q6 hz rfl (x:=f0) rfl ?_)
 have fin:∀h' e,(∀c o,c≠z->c≠i1->s.heap.get? c=some o->h'.get? c=some o)->(∃o,h'.get? e=some o/\o.cls=.type "StopIteration") ->
   wpAny (model prog w) A (do if <-isInstance (.ref e) (.type "StopIteration") then pure none else throw (.ref e)) Q E { s with heap:=h' }:=λh' e hk ⟨o,ho,hc⟩ =>
  Qa (wpAny_isInstance (T := "StopIteration") (b:=true) ⟨o,ho,hc⟩ isSubtype_stop (Qe (hQ _ hk)))
 rcases hf with⟨e1,e2,a,b,hTO⟩|⟨T,oT,e1,hT⟩
 ·subst e1 e2;refine Qe ?_;simp only[if_true];refine Qa (wpAny_rule ?_);refine Qa (Q6 hz rfl (x:=.ref TO) rfl ?_);refine Qa (Xk hz (by simp) λh₁ hz1 hs1=>?_)
  replace hz1:IsZ h₁ z TI TO .ellipsis false:=hz1
  refine Qa ?_;simp only[List.zipIdx_cons,List.zipIdx_nil,XH,XZ];refine Qa (Qa (wpAny_onRaise ?_));show wpAny _ _ (Builtin.SmallTypes.nextOf (.ref i1) >>= _) _ _ _;refine Qa (wpAny_nextOf_list_end hh (h1.extBut hs1.extBut D.i1z) (hl.extBut hs1.extBut D.lz) hv λh₂ e hs₂ he=>?_);obtain⟨oe,hoe,hce⟩:=he;have hz₂:IsZ h₂ z TI TO .ellipsis false:=hs₂ _ _ D.i1z.symm hz1;have hez:e≠z:=λx=>by subst x;rw[hz₂]at hoe;cases hoe;simp at hce
  refine Xk hz₂ (by simp) λh₃ _ hs₃=>?_;exact fin h₃ e (λc o c1 c3 x=>hs₃.extBut _ _ c1 (hs₂ _ _ c3 (hs1.extBut _ _ c1 x))) ⟨oe,hs₃.extBut _ _ hez hoe,hce⟩
 subst e1;show wpAny _ _ (loadIfAlive ((T:Int).toNat) >>= _) _ _ _;rw[Xa];refine Qa (t7 hT ?_);simp only[Option.isNone_some,Qz,Xs];refine Qa (Q6 hz rfl (x:=.bool f1) rfl ?_)
 cases f1 with
 | false =>
  simp only[show (Value.bool false != Value.bool true)=true from rfl,if_true];refine Qa (Xk hz (by simp) λh₁ hz1 hs1=>Qe ?_)
  replace hz1:IsZ h₁ z TI TO (rawInt T) true:=hz1
  simp only[Qz,Xs,List.forIn_toArray,XH,XZ];refine Qa (Qa (Qa (QT ?_)));show wpAny _ _ (Builtin.SmallTypes.nextOf (.ref i1) >>= _) _ _ _;refine Qa (wpAny_nextOf_list_end hh (h1.extBut hs1.extBut D.i1z) (hl.extBut hs1.extBut D.lz) hv λh₂ e hs₂ he=>?_);exact fin h₂ e (λc o c1 c3 x=>hs₂ _ _ c3 (hs1.extBut _ _ c1 x)) he
 | true =>
 simp only[show (Value.bool true != Value.bool true)=false from rfl,Qz,Xs];refine Qe ?_;simp only[Qz,Xs,List.forIn_toArray,XH,XZ];refine Qa (Qa (Qa (QT ?_)));show wpAny _ _ (Builtin.SmallTypes.nextOf (.ref i1) >>= _) _ _ _;refine Qa (wpAny_nextOf_list_end hh h1 hl hv λh₂ e hs₂ he=>?_);exact fin h₂ e (λc o c1 c3 x=>hs₂ _ _ c3 x) he
theorem fz:typeLookup (.type "zip") "__getattr__" = pure none:=by rw[typeLookup_type,builtinLookup_eq_fast];kernel_rfl
theorem iC:typeLookup (.type "zip") "keys" = pure none:=by rw[typeLookup_type,builtinLookup_eq_fast];kernel_rfl
theorem dJ:entryFor table "zip.__getattribute__" = some Builtin.«object.__getattribute__» :=
 entryFor_alias (id' := "object.__getattribute__") (by kernel_rfl) (by decide +kernel) (by decide +kernel) (by kernel_rfl)
theorem hV (a:Addr) (xs:Array Value) (sl:Array (Option Value)) (u:Tok) :
  Meets (Builtin.«object.__getattribute__» ⟨[.ref a,.str "keys" u],[]⟩) (λA R s=>s.heap.get? a=some { cls:=.type "zip", dict:=none,data:=.fields xs,slots:=sl }/\raisesAttr (.ref a) "keys" A R s) :=
 Meets.of_wp λprog w A R s hs=>by
  obtain⟨hp,g,d,tk,os⟩:=s;obtain⟨hx,hs⟩:=hs;have hT:(⟨hp,g,d,tk,os⟩:Shared).TypeIs (.ref a) "zip" := ⟨_,hx,rfl⟩;have hmiss:=iC;have hname:(["__module__", "__name__", "__qualname__", "__doc__", "__annotations__"]:List Str).contains "keys" = false:=by decide +kernel
  unfold Builtin.«object.__getattribute__»
  repeat (any_goals (first|assumption|wp_step))
  try simp only[hname,Qz,Xs]
  repeat (any_goals (first|assumption|wp_step))
  exact wpAny_raiseAttrError hs.1 hs.2 (attrMsg_fits (by decide +kernel) (by decide +kernel))
theorem qI {a:Addr} {xs:Array Value} {sl:Array (Option Value)} (hx:s.heap.get? a=some { cls:=.type "zip", dict:=none,data:=.fields xs,slots:=sl }) (hA:A.handled=none)
  (h:∀h' tk,(∀c o,s.heap.get? c=some o->h'.get? c=some o)->Q none { s with heap:=h',toks:=tk }):wpAny (model prog w) A (getAttr? (.ref a) "keys") Q E s:=by
 obtain⟨hp,g,d,tk,os⟩:=s;have hT:∀tk',(⟨hp,g,d,tk',os⟩:Shared).TypeIs (.ref a) "zip" := λ_=>⟨_,hx,rfl⟩;have f1:=sub_AttributeError;have f3:=F.slot_zip_getattribute.lookup;have f4:=F.slot_zip_getattribute.bind (.ref a);have f5:=fz;unfold getAttr? getAttrBy? getAttrBy
 repeat (any_goals (first|assumption|exact hT _|((with_reducible show wpAny _ _ (call (Value.builtin "zip.__getattribute__") _ _) _ _ _);refine call_meets F.slot_zip_getattribute (hT _) dJ (F.args_zip_getattribute_2 _ _) (hV a xs sl _) ⟨hx,hA,λh' tk' e hx'=>?_⟩)|wp_step))
 obtain⟨t',u',he⟩:=hx'.there;show wpAny _ _ (getattributeRaised _ _ _ _ _ _ _) _ _ _;unfold getattributeRaised
 repeat (any_goals (first|assumption|wp_step))
 all_goals exact h _ _ hx'.keeps
end
theorem gZ:mroOf (.type "dict")=pure [.type "dict", .type "object"]:=by rw[mroOf_type];kernel_rfl
theorem gc:typeLookup (.type "dict") "__new__" = pure (some (.builtin "dict.__new__")):=by rw[typeLookup_type,builtinLookup_eq_fast];kernel_rfl
theorem mf:TypeCalled "dict" "dict.__new__" "dict.__init__" :=
 ⟨by decide +kernel,by decide +kernel,⟨_,_,gZ⟩,madeBy_type gZ gc (by decide +kernel),by decide +kernel,by rw[isSubtype_type];kernel_rfl,F.slot_dict_init⟩
theorem f8 (a:Value):checkTypeCall "dict" ⟨[a],[]⟩=pure ():=by kernel_rfl
theorem gX (a:Value):checkBuiltinCall "dict.__new__" ⟨[.type "dict", a],[]⟩=pure ():=by kernel_rfl
theorem io:entryFor table "dict.__new__" = some Builtin.«dict.__new__»:=entryFor_of_tree (by kernel_rfl)
theorem gM:plainId "dict.__new__" = true:=by decide +kernel
theorem rC:isSubtype (.type "dict") (.type "dict")=pure true:=by rw[isSubtype_type];kernel_rfl
theorem ji:entryFor table "dict.update.loop" = some Builtin.«dict.update.loop»:=entryFor_of_tree (by kernel_rfl)
theorem d9:plainId "dict.update.loop" = true:=by decide +kernel
structure ApartD (z TI TO i1 i2 l d:Addr):Prop extends Apart5 z TI TO i1 i2 l where
 dz:d≠z
 dTI:d≠TI
 dTO:d≠TO
 di1:d≠i1
 di2:d≠i2
 dl:d≠l
structure ZS (h:Heap) (z TI TO i1 i2 l d:Addr) (ty:String) (x:Str) (t:Tok) (xs:Array Value) (k:Nat):Prop where
 zf:(IsZ h z TI TO .none false/\∃a b,IsPair h TO a b)\/∃(T:Addr) (f1:Bool) (oT:Obj),IsZ h z TI TO (rawInt (T:Nat)) f1/\h.get? T=some oT/\T≠z/\T≠i1/\T≠i2/\T≠d
 ti:IsPair h TI (.ref i1) (.ref i2)
 a1:h.IsListIter i1 l k
 a2:h.IsStrIter i2 ty x t k
 li:h.IsList l xs
section
variable {prog:Program} {w:World} {K:Type} [DecidableEq K] {knd:KeyKind prog w K} {A:Around} {R:Result->Shared->Prop}
def d7 (kvs:List (K × Value)) (ps:List (K × Value)):List (K × Value):=ps.foldl (λacc p=>stored acc p.1 p.2) kvs
theorem mK (kvs:List (K × Value)) (k:K) (v:Value):(stored kvs k v).length<=kvs.length+1:=by
 unfold stored
 split
 ·rw[Qc];exact xX
 rw[Qh];simp
variable {Q E:A0}
theorem iI {s:Shared} (a:Value) (h:Q (.ref s.heap.objs.size) { s with heap:=s.heap.push { cls:=.type "dict", data:=.dict #[] } }) :
  codeAny (model prog w) A (.call (.builtin "dict.__new__") ⟨[.type "dict", a],[]⟩) (wants Q E) s:=by
 refine codeAny_call_builtin gM io (wpAny_of_eq (gX a) ?_);have hsub:=rC;have hmro:=gZ;obtain⟨hp,g,d,tk,os⟩:=s;unfold Builtin.«dict.__new__»
 wp_walk
 exact h
end
end LZ
namespace L2
open PySem PySem.Spec PyProof.Rows
def bL (kvs:List (Key × V)):List (Key × V)->List (Key × V)
 | []=>kvs
 | p::r=>bL (bI kvs p.1 p.2) r
theorem sX:∀{qs:List (Key × V)} {ps:List (Key × Value)} {kvs:List (Key × V)} {vs:List (Key × Value)},KV qs ps->KV kvs vs->KV (bL kvs qs) (LZ.d7 vs ps)
 | [],_,_,_,h,r=>by cases h;exact r
 | q::qs,p::ps,kvs,vs,h,r=>by
  cases h with
  | cons h1 h2 =>
  show KV (bL (bI kvs q.1 q.2) qs) (LZ.d7 (stored vs p.1 p.2) ps);rw[<-h1.1];exact sX h2 (r.put q.1 h1.2)
theorem paired_get {α β:Type} {F:α->β->Prop}:∀{xs:List α} {ys:List β},xs.length=ys.length->(∀(j:Nat) x y,xs[j]?=some x->ys[j]?=some y->F x y)->Paired F xs ys
 | [],[],_,_=>.nil
 | x::xs,y::ys,hl,h=>.cons (h 0 x y rfl rfl) (paired_get (by simpa using hl) λj a b e1 e2=>h (j+1) a b (by simpa using e1) (by simpa using e2))
theorem eK:∀(qs kvs:List (Key × V)),(bL kvs qs).length<=kvs.length+qs.length
 | [],kvs=>Qj _
 | q::qs,kvs=>by
  have h1:=eK qs (bI kvs q.1 q.2);have h2:=bX kvs q.1 q.2;show (bL (bI kvs q.1 q.2) qs).length<=_;rw[Xh];exact xY h1 h2
section
variable {X:Cx} {a b:Expr} {ta:TA} {p1 p2 pos1 pos2:Pos}
end
end L2
namespace LZ
open PySem
section
variable {prog:Program} {w:World} {A:Around} {E:A0} {s:Shared}
end
section
variable {prog:Program} {w:World} {K:Type} [DecidableEq K] {knd:KeyKind prog w K} {A:Around} {R:Result->Shared->Prop}
def ky (h:Heap) (xs:Array Value) (ka va:Nat->Value) (it d:Addr):Prop:=∀k,k<xs.size->∃(T:Addr) (o:Obj) (n:Nat),xs[k]?=some (.ref T)/\h.get? T=some o/\o.cls=.type "tuple" /\ o.data=.seq #[ka k,va k] n/\T≠it/\T≠d
theorem ky.keep {h h':Heap} {xs:Array Value} {ka va:Nat->Value} {it d:Addr} (p:ky h xs ka va it d) (hk:∀c o,c≠it->c≠d->h.get? c=some o->h'.get? c=some o):ky h' xs ka va it d:=λk hlt =>
 let ⟨T,o,n,e1,e2,e3,e4,e5,e6⟩:=p k hlt;⟨T,o,n,e1,hk T o e5 e6 e2,e3,e4,e5,e6⟩
end
end LZ
namespace L2
open PySem PySem.Spec PyProof.Rows
section
variable {X:Cx} {a:Expr} {ta:TA} {p1 pos1:Pos}
end
end L2
namespace LS
open PySem PySem.Spec PyProof.Rows
def Led (w:World) (t:SetTable) (n:Nat):Prop:=w.params.followText "set-order" = true\/(t.led=true/\(n≠0->t.plain=false))
theorem pX (t:SetTable) (n:Nat):(t.orStandIn n).led=t.led/\(t.plain=false->(t.orStandIn n).plain=false):=by
 unfold SetTable.orStandIn
 split
 ·exact⟨rfl,id⟩
 exact⟨rfl,λ_=>rfl⟩
theorem nA (t:SetTable) (es:Array (Int × Value)) (h:Int) (x:Value):(layNew t es h x).2.1.led=t.led/\(t.plain=false->(layNew t es h x).2.1.plain=false):=by
 unfold layNew
 split
 ·exact pX (t.put _).1 _
 exact⟨rfl,λ_=>rfl⟩
theorem sW {m f v:Nat} {l p:Bool} {hs:Array Int} {t:SetTable} {o:Array Nat} (h:SetTable.laid m f v l p hs=some (t,o)):t.led=l/\t.plain=p:=by
 unfold SetTable.laid at h
 cases e:SetTable.layClean m hs with
 | none=>rw[e]at h;cases h
 | some ow=>rw[e]at h;cases h;exact⟨rfl,rfl⟩
theorem p_ (t:SetTable) (es:Array (Int × Value)) (n:Nat):(relayAll t es n).2.1.led=t.led/\(t.plain=false->(relayAll t es n).2.1.plain=false):=by
 unfold relayAll
 split
 ·rename_i t' o e
  obtain⟨e1,e2⟩:=sW e;dsimp only
  split
  ·exact⟨e1,λz=>e2.trans z⟩
  exact⟨rfl,λ_=>rfl⟩
 exact⟨rfl,λ_=>rfl⟩
def cL (prog:Program) (w:World) (h:Heap) (a:Addr) (S:Str->Bool) (n:Nat):Prop:=∃o es ep t,h.get? a=some o/\o.ExactSet/\o.data=.set es ep t/\ElemsOf (strKind prog w) es.toList/\(∀k,S k=true↔∃e∈es.toList,(strKind prog w).is k e.2=true)/\es.size<scanBound/\t.fits es.size=true/\es.size=n/\Led w t es.size
section
variable {prog:Program} {w:World} {A:Around} {E:A0} {s:Shared} {a:Addr} {S:Str->Bool} {n:Nat}
variable {es' es:Array (Int × Value)}
theorem cL.put {h:Heap} {o:Obj} {ep:Nat} {t:SetTable} (ho:h.get? a=some o) (hex:o.ExactSet) (hd:o.data=.set es ep t) {t':SetTable}
  (hel:ElemsOf (strKind prog w) es'.toList) (hm:∀k,S k=true↔∃e∈es'.toList,(strKind prog w).is k e.2=true) (hb:es'.size<scanBound) (hf:t'.fits es'.size=true) (hn:es'.size=n) (hl:Led w t' es'.size) :
  (h.update a (Obj.putSet es' t')).get? a=some { o with data:=.set es' (ep+1) t' }/\cL prog w (h.update a (Obj.putSet es' t')) a S n:=by
 obtain⟨g,_⟩:=SetOf_store (knd:=strKind prog w) ho hex hd hel hm hb hf;exact⟨g,_,es',ep+1,t',g,hex,rfl,hel,hm,hb,hf,hn,hl⟩
theorem vn {k:Str} {tok:Tok} {Q:Bool->Shared->Prop} (hS:cL prog w s.heap a S n) (hroom:n+1<scanBound)
  (h:∀h' b,Heap.SameBut a s.heap h'->cL prog w h' a (λk'=>S k' || decide (k'=k)) (if S k then n else n+1)->Q b { s with heap:=h' }) :
  wpAny (model prog w) A (setAddHashed a (.str k tok) ((strKind prog w).hash k)) Q E s:=by
 obtain⟨o,es,ep,t,ho,hex,hd,hel,hm,hb,hf,hn,hl⟩:=hS;have hkey:(strKind prog w).is k (.str k tok)=true:=strKind_is _ _ _ _;have hsc:(Value.str k tok).scannable=true:=rfl;unfold setAddHashed setAddHashedIn;refine QT (Qa (Xr ho hd hf ?_));dsimp only;rw[byScan_of hsc hb hel];simp only[↓reduceIte];unfold setAddByScan;refine Qa (Qa (wpAny_rule (Qa (wpAny_setScan_of hkey ho hd hf hel ?_))))
 cases hr:List.findIdx? (λe=>(strKind prog w).is k e.2) es.toList with
 | some j =>
  dsimp only;obtain⟨hj,hpj,_⟩:=List.findIdx?_eq_some_iff_getElem.mp hr;have hk:S k=true:=(hm k).mpr ⟨_,Xi hj,hpj⟩;refine Qe (Qe (h s.heap _ (Heap.SameBut.refl a s.heap) ⟨o,es,ep,t,ho,hex,hd,hel,λk'=>?_,hb,hf,by rw[hk];exact hn,hl⟩));rw[Bool.or_eq_true,decide_eq_true_eq,<-hm k'];exact⟨λz=>z.elim id λe=>e▸hk,.inl⟩
 | none =>
 dsimp only
 have hk:S k=false:=by
  cases hk:S k with
  | false=>rfl
  | true=>obtain⟨e,he,hp⟩:=(hm k).mp hk;have:=List.findIdx?_eq_none_iff.mp hr e he;rw[hp]at this;exact Bool.noConfusion this
 have hperm:=layNew_perm t es ((strKind prog w).hash k) (.str k tok);have hfits:=layNew_fits t es ((strKind prog w).hash k) (.str k tok);obtain⟨l1,l2⟩:=nA t es ((strKind prog w).hash k) (.str k tok);generalize hL:layNew t es ((strKind prog w).hash k) (.str k tok)=L at hperm hfits l1 l2 ⊢;obtain⟨es1,t1,wasDummy,gave⟩:=L;dsimp only at hperm hfits l1 l2 ⊢;rw[Array.toList_push]at hperm;have hel1:=(hel.push hkey hsc).perm hperm;have hm1:∀k',(S k' || decide (k'=k))=true↔∃e∈es1.toList,(strKind prog w).is k' e.2=true:=mem_push_iff hkey hm hperm;have hz:es1.size=n+1:=by rw[<-Qg,hperm.length_eq,Qh,Qg,hn];rfl
 have hb1:es1.size<scanBound:=by rw[hz];exact hroom
 rw[hk]at h
 have tail:∀(t2:SetTable) (s1:Shared) (g:Bool->Sem Unit),(∀(b:Bool) (s₁:Shared) (Q':Unit->Shared->Prop),Q' () s₁->wpAny (model prog w) A (g b) Q' E s₁)->s1=s->t2.fits es1.size=true->Led w t2 es1.size ->
   wpAny (model prog w) A (do
    storeSet a es1 t2
    if (!wasDummy&&t2.tooFull)=true then do
      g (relayAll t2 es1 (SetTable.grown es1.size)).2.2
      storeSet a (relayAll t2 es1 (SetTable.grown es1.size)).1 (relayAll t2 es1 (SetTable.grown es1.size)).2.1
      pure (some true)
     else pure (some true)) (λr s'=>∃h' b,r=some b/\s'={ s with heap:=h' }/\Heap.SameBut a s.heap h'/\cL prog w h' a (λk'=>S k' || decide (k'=k)) (n+1)) E s1:=λt2 s1 g hg e f2 d2=>by
  subst e;refine Qa (wpAny_storeSet_of ho hd ?_ (fits_of_scanBound hb1));obtain⟨ho1,q1⟩:=cL.put ho hex hd hel1 hm1 hb1 f2 hz d2;have k1:=Q5 s1.heap a (Obj.putSet es1 t2)
  split
  ·have hp:=relayAll_perm t2 es1 (SetTable.grown es1.size);have hfr:=relayAll_fits t2 es1 (SetTable.grown es1.size);obtain⟨r1,r2⟩:=p_ t2 es1 (SetTable.grown es1.size);generalize hRl:relayAll t2 es1 (SetTable.grown es1.size)=Rl at hp hfr r1 r2 ⊢;obtain⟨es2,t3,gave2⟩:=Rl;dsimp only at hp hfr r1 r2 ⊢;have hz2:es2.size=es1.size:=by rw[<-Qg,hp.length_eq,Qg]
   refine Qa (hg _ _ _ (Qa (wpAny_storeSet_of ho1 rfl ?_ (fits_of_scanBound (by rw[hz2];exact hb1)))))
   obtain⟨_,q2⟩:=cL.put (S:=λk'=>S k' || decide (k'=k)) (n:=n+1) ho1 hex rfl (hel1.perm hp) (λk'=>(hm1 k').trans ⟨λ⟨e,he,q⟩=>⟨e,hp.mem_iff.mpr he,q⟩,λ⟨e,he,q⟩=>⟨e,hp.mem_iff.mp he,q⟩⟩) (by rw[hz2];exact hb1) hfr (hz2.trans hz)
    (d2.imp id λz=>⟨r1.trans z.1,λy=>r2 (z.2 (by rw[<-hz2];exact y))⟩)
   exact Qe ⟨_,true,rfl,rfl,k1.trans (Q5 _ a _),q2⟩
  exact Qe ⟨_,true,rfl,rfl,k1,q1⟩
 have fin:∀(r:Option Bool) (s':Shared),(∃h' b,r=some b/\s'={ s with heap:=h' }/\Heap.SameBut a s.heap h'/\cL prog w h' a (λk'=>S k' || decide (k'=k)) (n+1))->∃h' b,r=some b/\s'={ s with heap:=h' }/\Q b s':=λr s' ⟨h',b,e1,e2,e3,e4⟩=>⟨h',b,e1,e2,by rw[e2];exact h h' b e3 (by simpa using e4)⟩
 have gw:∀(b:Bool) {s₁:Shared} {Q':Unit->Shared->Prop},Q' () s₁->wpAny (model prog w) A (match b with|true=>rule "set.scan.the-table-gave-way" | false=>pure ()) Q' E s₁ :=
  λb s₁ Q' hq=>by cases b <;> first|exact Qe hq|exact wpAny_rule hq
 refine Qa (gw _ ?_)
 split
 ·refine Qa ?_;rw[hashByValue_scannable 8 hsc];refine Qe ?_;refine XV (tail _ s _ ?_ rfl ?_ ?_) (λr s' z=>?_) λ_ _ z=>z
  ·intro b s₁ Q' hq;cases b <;> first|exact Qe hq|exact wpAny_rule hq
  ·exact SetTable.fits_plain_off hfits
  ·exact hl.imp id λz=>⟨l1.trans z.1,λ_=>rfl⟩
  obtain⟨h',b,rfl,rfl,q⟩:=fin r s' z;exact Qe q
 rename_i hp
 refine Qa (Qe ?_);simp only[↓reduceIte];refine XV (tail _ s _ ?_ rfl hfits ?_) (λr s' z=>?_) λ_ _ z=>z
 ·intro b s₁ Q' hq;cases b <;> first|exact Qe hq|exact wpAny_rule hq
 ·exact hl.imp id λz=>⟨l1.trans z.1,λ_=>by simpa using hp⟩
 obtain⟨h',b,rfl,rfl,q⟩:=fin r s' z;exact Qe q
theorem cL.congr {h:Heap} {S':Str->Bool} {m:Nat} (q:cL prog w h a S n) (e:∀k,S k=S' k) (f:n=m):cL prog w h a S' m:=by
 obtain⟨o,es,ep,t,h1,h2,h3,h4,h5,h6,h7,h8,h9⟩:=q;exact⟨o,es,ep,t,h1,h2,h3,h4,λk=>by rw[<-e k];exact h5 k,h6,h7,h8.trans f,h9⟩
abbrev bare (led:Bool):Obj:={ cls:=.type "set", dict:=none,data:=.set #[] 0 (.fresh 0 0 led) }
theorem cL.bare {h:Heap} (g:h.get? a=some (bare !(w.params.followText "set-order"))):cL prog w h a (λ_=>false) 0 :=
 ⟨_,#[],0,_,g,⟨rfl,rfl,rfl⟩,rfl,fun e he=>by simp at he,fun k=>by simp,by decide,rfl,rfl,by
  unfold Led
  cases e:w.params.followText "set-order" with
  | true=>exact .inl rfl
  | false=>exact .inr ⟨rfl,λz=>absurd rfl z⟩⟩
theorem l7 (x:Value) {Q₁:A0} (h:Q₁ (.ref s.heap.objs.size) { s with heap:=s.heap.push (LS.bare !(w.params.followText "set-order")) }) :
  codeAny (model prog w) A (.call (.builtin "set.__new__") ⟨[.type "set", x],[]⟩) (wants Q₁ E) s:=by
 refine codeAny_of_tree ?_;show wpAny _ A.in1 (do checkBuiltinCall "set.__new__" ⟨[.type "set", x],[]⟩;again (.builtin "set.__new__" ⟨[.type "set", x],[]⟩)) _ _ s;refine Qa (wpAny_of_eq (F.newCall_set_1 x) (Qe ⟨plainId_quiet F.plain_set_new _,XB F.entry_set_new ?_⟩));rw[Xp F.plain_set_new _];unfold Builtin.«set.__new__» Builtin.Frozenset.newClass;have hsub:=sub_set_self;obtain⟨hp,g,d,tk,os⟩:=s;dsimp only
 wp_walk
 refine wpAny_askSetting (Qe ?_);dsimp only;simp only[newObj];exact Qa (wpAny_alloc (Qe (Qe h)))
end
theorem b_:Slot "set_iterator" "__next__" "set_iterator.__next__" :=
 .of (owner := "set_iterator") (n := "__next__") (by rw[typeLookup_type,builtinLookup_eq_fast];kernel_rfl) (by decide +kernel) (by decide +kernel) (by decide +kernel)
  (by first|exact .inl (by decide +kernel)|exact .inr (by decide +kernel)) (by rw[isSubtype_type];kernel_rfl)
theorem fc:Slot "set_iterator" "__iter__" "set_iterator.__iter__" :=
 .of (owner := "set_iterator") (n := "__iter__") (by rw[typeLookup_type,builtinLookup_eq_fast];kernel_rfl) (by decide +kernel) (by decide +kernel) (by decide +kernel)
  (by first|exact .inl (by decide +kernel)|exact .inr (by decide +kernel)) (by rw[isSubtype_type];kernel_rfl)
theorem iG:entryFor table "set_iterator.__next__" = some Builtin.«set_iterator.__next__»:=entryFor_of_tree (by kernel_rfl)
theorem iH:entryFor table "set_iterator.__iter__" = some Builtin.«dict_keyiterator.__iter__»:=entryFor_alias (id' := "dict_keyiterator.__iter__") (by kernel_rfl) rfl (by decide +kernel) (by kernel_rfl)
theorem ik:entryFor table "set.__iter__" = some Builtin.«frozenset.__iter__»:=entryFor_alias (id' := "frozenset.__iter__") (by kernel_rfl) rfl (by decide +kernel) (by kernel_rfl)
theorem lu:Manifest.owners.lookup (String.ofList ['r','o','t','a','r','e','t','i','_','t','e','s'].reverse)=some Manifest.sig_set_iterator:=by kernel_rfl
theorem kh (a:Value):argsOk "set_iterator.__next__" ⟨[a],[]⟩:=by
 unfold argsOk;rw[signature?_of (id := "set_iterator.__next__") (n:=['_','_','t','x','e','n','_','_']) (o:=['r','o','t','a','r','e','t','i','_','t','e','s']) (by kernel_rfl) lu];kernel_rfl
theorem ki (a:Value):argsOk "set_iterator.__iter__" ⟨[a],[]⟩:=by
 unfold argsOk;rw[signature?_of (id := "set_iterator.__iter__") (n:=['_','_','r','e','t','i','_','_']) (o:=['r','o','t','a','r','e','t','i','_','t','e','s']) (by kernel_rfl) lu];kernel_rfl
def d5 (h:Heap) (it a:Addr) (first:Value) (i n ep:Nat):Prop:=∃o,h.get? it=some o/\o.cls=.type "set_iterator" /\ o.data=.fields #[first,.int i 0,.ref a,.int n 0,.int ep 0]
def df (h:Heap) (a:Addr) (es:Array (Int × Value)) (ep:Nat) (t:SetTable):Prop:=∃o,h.get? a=some o/\o.data=.set es ep t/\o.cls=.type "set" /\ t.fits es.size=true
section
variable {prog:Program} {w:World} {A:Around} {E:A0} {s:Shared} {a it:Addr} {es:Array (Int × Value)} {ep:Nat} {t:SetTable} {i:Nat} {first:Value}
variable {n:Nat}
theorem d5.typeIs (h:d5 s.heap it a first i n ep):s.TypeIs (.ref it) "set_iterator" := let ⟨o,ho,hc,_⟩:=h;⟨o,ho,hc⟩
theorem d5.at {h h':Heap} (x:d5 h it a first i n ep) (e:∀o,h.get? it=some o->h'.get? it=some o):d5 h' it a first i n ep:=let ⟨o,ho,r⟩:=x;⟨o,e _ ho,r⟩
theorem df.at {h h':Heap} (x:df h a es ep t) (e:∀o,h.get? a=some o->h'.get? a=some o):df h' a es ep t:=let ⟨o,ho,r⟩:=x;⟨o,e _ ho,r⟩
theorem jT {Q:A0} (hit:d5 s.heap it a first i n ep) (h:Q (.ref it) s):wpAny (model prog w) A (pyIter (.ref it)) Q E s:=by
 refine wpAny_pyIter_slot hit.typeIs fc (QZ fc hit.typeIs iH ?_ (ki _));show wpAny _ _ (ret (.ref it)) _ _ s;exact Qe ⟨_,rfl, "set_iterator", _,hit.typeIs,b_.lookup,h⟩
variable {Q:Option Value->Shared->Prop}
theorem gj (hit:d5 s.heap it a first i n ep) (h:wpAny (model prog w) A.in1 (Builtin.«set_iterator.__next__» ⟨[.ref it],[]⟩) (λfin s'=>∃v,fin=Fin.done (Flow.ret v)/\wpAny (model prog w) A (pure (some v)) Q E s')
   (λe s'=>wpAny (model prog w) A (isInstance e (Value.type "StopIteration") >>= λb=>if b=true then pure none else throw e) Q E s') s):wpAny (model prog w) A (pyNext (.ref it)) Q E s :=
 Qa (wpAny_attempt (Q7 (name:=Str.ofString "__next__") hit.typeIs b_ (QZ b_ hit.typeIs iG h (kh _))))
theorem rD {h1:Heap} (hh:A.handled=none) (k:Heap.ExtBut it s.heap h1) (h:∀h',Heap.ExtBut it s.heap h'->Q none { s with heap:=h' }) :
  wpAny (model prog w) A.in1 (PySem.newExc (Value.type "StopIteration") [] >>= λe=>raiseNew (α:=Fin) e) (λfin s'=>∃v,fin=Fin.done (Flow.ret v)/\wpAny (model prog w) A (pure (some v)) Q E s')
   (λe s'=>wpAny (model prog w) A (isInstance e (Value.type "StopIteration") >>= λb=>if b=true then pure none else throw e) Q E s') { s with heap:=h1 }:=by
 refine Qa ?_;simp only[PySem.newExc,newTuple];refine Qa (XR ?_ (by size_fits));refine Qa (m:=firstArgMember _ _) (wpAny_of_eq (a:=Value.none) (by first|rfl|(simp only[firstArgMember];rfl)) ?_);refine XR ?_ (by size_fits);simp only[raiseNew];refine Qa (wpAny_handled ?_);rw[show A.in1.handled=none from hh];refine Qa (Qe (wpAny_throw ?_));refine Qa (wpAny_isInstance (T := "StopIteration") (b:=true) ⟨_,Qn _ rfl,rfl⟩ isSubtype_stop ?_);exact Qe (h _ ((k.push _).push _))
theorem i9 {slot next:Nat} {x:Value} (hit:d5 s.heap it a (.int slot 0) i es.size ep) (hs:df s.heap a es ep t)
  (hw:∀(Q:Option (Value × Nat)->Shared->Prop) (E:A0),Q (some (x,next)) s->wpAny (model prog w) A.in1 (setNext a slot i ep) Q E s)
  (h:∀h',d5 h' it a (.int next 0) (i+1) es.size ep->Heap.SameBut it s.heap h'->Q (some x) { s with heap:=h' }):wpAny (model prog w) A (pyNext (.ref it)) Q E s:=by
 obtain⟨o,ho,hc,hd⟩:=id hit;obtain⟨os,hos,hds,_,hf⟩:=id hs;refine gj hit ?_;unfold Builtin.«set_iterator.__next__»;refine Qa (Qe (Qa (wpAny_fieldsOf ho hd ?_)));dsimp only;refine Qa (wpAny_setEntries_of hos hds hf ?_);rw[Qq (by simp)];refine Qa (hw _ _ ?_);dsimp only;refine Qa (wpAny_setField ho hd (by simp) ?_);have h1:=Xj (Obj.mapFields (·.setIfInBounds 0 (rawInt (next:Int)))) ho (Obj.isFreed_of_fields (XF hd _));have d1:=XF hd (·.setIfInBounds 0 (rawInt (next:Int)));refine Qa (wpAny_setField h1 d1 (by simp) ?_);refine Qe ⟨_,rfl,Qe (h _ ⟨_,Xj _ h1 (Obj.isFreed_of_fields (XF d1 _)),(Obj.cls_mapFields ..).trans ((Obj.cls_mapFields ..).trans hc),by rw[XF d1];simp[rawInt]⟩ ((Q5 ..).trans (Q5 ..)))⟩
theorem i_ {slot:Nat} (hh:A.handled=none) (hit:d5 s.heap it a (.int slot 0) i es.size ep) (hs:df s.heap a es ep t)
  (hw:∀(Q:Option (Value × Nat)->Shared->Prop) (E:A0),Q none s->wpAny (model prog w) A.in1 (setNext a slot i ep) Q E s)
  (h:∀h',Heap.ExtBut it s.heap h'->Q none { s with heap:=h' }):wpAny (model prog w) A (pyNext (.ref it)) Q E s:=by
 obtain⟨o,ho,hc,hd⟩:=id hit;obtain⟨os,hos,hds,_,hf⟩:=id hs;refine gj hit ?_;unfold Builtin.«set_iterator.__next__»;refine Qa (Qe (Qa (wpAny_fieldsOf ho hd ?_)));dsimp only;refine Qa (wpAny_setEntries_of hos hds hf ?_);rw[Qq (by simp)];refine Qa (hw _ _ ?_);dsimp only;refine Qa (wpAny_setField ho hd (by simp) ?_);exact rD hh (Q5 ..).extBut h
theorem nJ {tp:Addr} {pl:List Nat} {p:Nat} {e:Int × Value} (hit:d5 s.heap it a (.ref tp) i es.size ep) (hs:df s.heap a es ep t) (ht:s.heap.get? tp=some { cls:=.type "tuple", data:=.seq (pl.map λ(i:Nat)=>rawInt i).toArray })
  (hp:pl[i]?=some p) (he:es[p]?=some e) (h:∀h',d5 h' it a (.ref tp) (i+1) es.size ep->Heap.SameBut it s.heap h'->Q (some e.2) { s with heap:=h' }):wpAny (model prog w) A (pyNext (.ref it)) Q E s:=by
 obtain⟨o,ho,hc,hd⟩:=id hit;obtain⟨os,hos,hds,_,hf⟩:=id hs;refine gj hit ?_;unfold Builtin.«set_iterator.__next__»;refine Qa (Qe (Qa (wpAny_fieldsOf ho hd ?_)));dsimp only;refine Qa (wpAny_setEntries_of hos hds hf ?_);rw[Qq (by simp)];refine Qa (Xe ht rfl ?_);dsimp only;rw[show (List.map (λ(i:Nat)=>rawInt (i:Int)) pl).toArray[(i:Int).toNat]?=some (rawInt (p:Int)) by rw[Xa,List.getElem?_toArray,Qv,hp];rfl];dsimp only[rawInt];unfold setNextDrawn;refine Qa (Qa (Xr hos hds hf ?_));dsimp only;rw[Qq (by simp),Xa,he];refine Qa (Qe (Qe ?_));refine Qa (wpAny_setField ho hd (by simp) ?_);exact Qe ⟨_,rfl,Qe (h _ ⟨_,Xj _ ho (Obj.isFreed_of_fields (XF hd _)),(Obj.cls_mapFields ..).trans hc,by rw[XF hd];simp⟩ (Q5 ..))⟩
theorem nK {tp:Addr} {pl:List Nat} (hh:A.handled=none) (hit:d5 s.heap it a (.ref tp) i es.size ep) (hs:df s.heap a es ep t) (ht:s.heap.get? tp=some { cls:=.type "tuple", data:=.seq (pl.map λ(i:Nat)=>rawInt i).toArray })
  (hp:pl[i]?=none) (h:∀h',Heap.ExtBut it s.heap h'->Q none { s with heap:=h' }):wpAny (model prog w) A (pyNext (.ref it)) Q E s:=by
 obtain⟨o,ho,hc,hd⟩:=id hit;obtain⟨os,hos,hds,_,hf⟩:=id hs;refine gj hit ?_;unfold Builtin.«set_iterator.__next__»;refine Qa (Qe (Qa (wpAny_fieldsOf ho hd ?_)));dsimp only;refine Qa (wpAny_setEntries_of hos hds hf ?_);rw[Qq (by simp)];refine Qa (Xe ht rfl ?_);dsimp only;have en:(List.map (λ(i:Nat)=>rawInt (i:Int)) pl).toArray[(i:Int).toNat]?=none:=by rw[Xa,List.getElem?_toArray,Qv,hp,Option.map_none]
 rw[en];dsimp only;refine Qa (wpAny_setField ho hd (by simp) ?_);have h1:=Xj (Obj.mapFields (·.setIfInBounds 0 (rawInt 0))) ho (Obj.isFreed_of_fields (XF hd _));have d1:=XF hd (·.setIfInBounds 0 (rawInt 0));refine Qa (wpAny_setField h1 d1 (by simp) ?_);have k2:Heap.ExtBut it s.heap ((s.heap.update it (Obj.mapFields (·.setIfInBounds 0 (rawInt 0)))).update it (Obj.mapFields (·.setIfInBounds 2 .none))):=((Q5 s.heap it _).trans (Q5 _ it _)).extBut;exact rD (s:=s) (it:=it) (h1:=(s.heap.update it (Obj.mapFields (·.setIfInBounds 0 (rawInt 0)))).update it (Obj.mapFields (·.setIfInBounds 2 .none))) hh k2 h
end
end LS
set_option maxHeartbeats 1000000
namespace DR
open PySem PySem.Spec PyProof.Rows
abbrev At (h:Heap) (d:Addr) (es:Array DictEntry) (ep:Nat):Prop:=h.get? d=some { cls:=.type "dict", data:=.dict es ep }
abbrev IAt (h:Heap) (it d:Addr) (i n ep:Nat):Prop:=h.get? it=some { cls:=.type "dict_keyiterator", data:=.fields #[.ref d,.int i 0,.int n 0,.int ep 0] }
theorem xV:(if Builtin.Dict_items.ownsTuple ((Manifest.find? "dict_keyiterator").elim "dict_keyiterator" λx=>x.tpName)=true then 2 else 0)=0:=by rw[find?_eq_fast];kernel_rfl
section
variable {prog:Program} {w:World} {A:Around} {E:A0} {s:Shared} {d it:Addr} {es:Array DictEntry} {ep i:Nat}
theorem iter {Q:A0} (hd:(d==sysModules)=false) (hm:At s.heap d es ep)
  (hQ:Q (.ref s.heap.objs.size) { s with heap:=s.heap.push { cls:=.type "dict_keyiterator", data:=.fields #[.ref d,.int 0 0,.int es.size 0,.int ep 0] } }):wpAny (model prog w) A (pyIter (.ref d)) Q E s:=by
 have hT:s.TypeIs (.ref d) "dict" := ⟨_,hm,rfl⟩;refine wpAny_pyIter_slot hT F.slot_dict_iter (QZ F.slot_dict_iter hT F.entry_dict_iter ?_ (F.args_dict_iter_1 _));unfold Builtin.«dict.__iter__» Builtin.Dict.dictSlotNone Builtin.Dict.showsAll
 wp_walk
 exact⟨_,rfl, "dict_keyiterator", _,⟨_,Qn _ rfl,rfl⟩,X2.lookup,hQ⟩
variable {Q:Option Value->Shared->Prop}
theorem nxt (hit:IAt s.heap it d i es.size ep) (hm:At s.heap d es ep) (hi:i<es.size)
  (hQ:∀h',IAt h' it d (i+1) es.size ep->Heap.SameBut it s.heap h'->Q (some es[i].key) { s with heap:=h' }):wpAny (model prog w) A (pyNext (.ref it)) Q E s:=by
 have hT:s.TypeIs (.ref it) "dict_keyiterator" := ⟨_,hit,rfl⟩;refine Qa (wpAny_attempt (Q7 (name:=Str.ofString "__next__") hT X2 (QZ X2 hT F.entry_dict_keyiterator_next ?_ (F.args_dict_keyiterator_next_1 _))));unfold Builtin.«dict_keyiterator.__next__»
 wp_walk
 have e:(if (i:Int)<0 then none else es[(i:Int).toNat]?)=some es[i]:=by rw[Qq (by omega),Xa];simp[hi]
 rw[e];dsimp only;have m1:=mroOf_keyiter
 wp_walk
 rw[xV,Qq (by decide +kernel)];exact⟨_,rfl,Qe (hQ _ ((Xj _ hit rfl).trans (by simp[Obj.mapFields,rawInt])) (Q5 ..))⟩
theorem stp (hh:A.handled=none) (hit:IAt s.heap it d i es.size ep) (hm:At s.heap d es ep) (hi:es.size<=i)
  (hQ:∀h',Heap.ExtBut it s.heap h'->Q none { s with heap:=h' }):wpAny (model prog w) A (pyNext (.ref it)) Q E s:=by
 have hT:s.TypeIs (.ref it) "dict_keyiterator" := ⟨_,hit,rfl⟩;refine Qa (wpAny_attempt (Q7 (name:=Str.ofString "__next__") hT X2 (QZ X2 hT F.entry_dict_keyiterator_next ?_ (F.args_dict_keyiterator_next_1 _))));unfold Builtin.«dict_keyiterator.__next__»
 wp_walk
 have e:(if (i:Int)<0 then none else es[(i:Int).toNat]?)=none:=by rw[Qq (by omega),Xa];simp[hi]
 rw[e];dsimp only;have m1:=mroOf_keyiter;generalize hN:setField=SF
 wp_walk
 subst hN;refine wpAny_setField hit rfl (by rw[xV];simp) ?_;exact LS.rD hh (Q5 ..).extBut hQ
theorem self {Q:A0} {n:Nat} (hit:IAt s.heap it d i n ep) (h:Q (.ref it) s):wpAny (model prog w) A (pyIter (.ref it)) Q E s:=wpAny_pyIter_keyiter ⟨_,hit,rfl,rfl⟩ h
theorem vB (hh:A.handled=none) (I d:Addr) (hne:d≠I) (es:Array DictEntry) (ep:Nat):Walks prog w A I [I,d] [I] es.size (λi v=>∃e,es[i]?=some e/\v=e.key) (λi h=>IAt h I d i es.size ep/\At h d es ep) where
 sub:=λb hb=>by simp at hb;simp[hb]
 frame:=λ_ _ _ st hk=>⟨hk I (by simp) _ st.1,hk d (by simp) _ st.2⟩
 item:=λi s Q E hi st hQ=>nxt st.1 st.2 hi λh' hit' hs'=>hQ _ h' s.toks ⟨es[i],by simp[hi],rfl⟩ ⟨hit',hs'.extBut d _ hne st.2⟩ λb o hb e=>hs'.extBut b o (λh=>hb (by simp[h])) e
 done:=λs Q E st hQ=>stp hh st.1 st.2 (Qj _) λh' he'=>hQ h' s.toks λb o hb e=>he' b o (λh=>hb (by simp[h])) e
 self:=λ_ _ _ _ st hQ=>self st.1 hQ
theorem src (lo:(d==sysModules)=false):PySem.W.KdlSrc prog w "dict" d d es.size (λi v=>∃e,es[i]?=some e/\v=e.key) (λh=>At h d es ep) where
 type:=λ_ hm=>⟨_,hm,rfl⟩
 there:=λ_ h=>⟨Qo h,Qo h⟩
 keep:=λ_ _ hm hk=>hk d (.inl rfl) _ hm
 notList:=by decide
 notTuple:=by decide
 hint:=λ_ _ _ _ hm hq=>PySem.W.kdl_hint_dict ⟨_,hm,rfl⟩ hq
 iter:=λ_ _ hh hm=>⟨_,_,(λ_ _ hq=>iter lo hm hq),vB hh _ d (QF (Qo hm)) es ep,⟨Qn _ rfl,Qb _ hm⟩⟩
end
end DR
namespace L2
open PySem PySem.Spec PyProof.Rows
variable {H H':Hp}
theorem KIt.inj {x y:Key ⊕ List Key} {v:V} (h1:KIt H x v) (h2:KIt H y v):x=y:=by
 cases x with
 | inl k =>
  cases h1
  cases y with
  | inl j=>rw[tq (show kV k=kV j from h2)]
  | inr js=>obtain⟨c,e,_⟩:=h2;cases k <;> cases e
 | inr ks =>
 obtain⟨c,rfl,h1⟩:=h1
 cases y with
 | inl j=>have e:V.ref c=kV j:=h2;cases j <;> cases e
 | inr js =>
 obtain⟨c2,e,h2⟩:=h2;cases e;rw[h1]at h2;cases jQ (HO.tup.inj (QH h2));rfl
variable {b a:Addr} {x y:ax}
theorem bH.inj (h1:bH H x b) (h2:bH H y b):x=y:=by
 obtain⟨vs,e1,p1⟩:=h1;obtain⟨us,e2,p2⟩:=h2;rw[e1]at e2;cases HO.tup.inj (QH e2);clear e1 e2
 induction p1 generalizing y with
 | nil=>cases p2;rfl
 | cons q _ ih=>cases p2 with
  | cons q2 t2=>rw[q.inj q2,ih t2]
abbrev KsA (H:Hp) (bs:A3) (ks:List ax):Prop:=Paired (λb k=>bH H k b) bs ks
theorem KsA.keeps {bs:A3} {ks:List ax} (h:KsA H bs ks) (ht:∀b xs,H b=some (.tup xs)->H' b=some (.tup xs)):KsA H' bs ks:=Paired.mapT h λ_ _ z=>z.keeps ht
open Classical in
noncomputable def cU (H:Hp) (b:Addr):ax:=if h:∃k,bH H k b then h.choose else []
theorem nU {k:ax} (h:bH H k b):cU H b=k:=by
 unfold cU;rw[dif_pos ⟨k,h⟩];exact(Exists.choose_spec (p:=λk=>bH H k b) ⟨k,h⟩).inj h
theorem KsA.tk {bs:A3} {ks:List ax} (h:KsA H bs ks):ks=bs.map (cU H)/\∀b∈bs,bH H (cU H b) b:=by
 induction h with
 | nil=>exact⟨rfl,λb hb=>nomatch hb⟩
 | cons q _ ih =>
 rw[Qt,nU q];refine⟨by rw[<-ih.1],λb hb=>?_⟩;rcases Qk.mp hb with rfl|hb
 ·rw[nU q];exact q
 exact ih.2 b hb
theorem nB {H:Hp}:∀{bs:A3},(∀b∈bs,bH H (cU H b) b)->KsA H bs (bs.map (cU H))
 | [],_=>.nil
 | b::bs,h=>.cons (h b (by simp)) (nB λc hc=>h c (Qu _ hc))
theorem fG:∀(cs:A3),aO (cs.map V.ref) (cs.map Value.ref)
 | []=>.nil
 | _::cs=>.cons rfl (fG cs)
theorem eO:∀{cs:A3} {us:List Value},aO (cs.map V.ref) us->us=cs.map Value.ref
 | [],_,r=>by
  rw[List.map_nil]at r;cases r;rfl
 | c::cs,_,r=>by
  rw[Qt]at r
  cases r with
  | cons r1 r2=>rw[eO r2,Qt];cases (show _=Value.ref c from r1);rfl
theorem iU {ys:List Value} {l:A3} (h:ys.Perm (l.map Value.ref)):∃l':A3,l'.Perm l/\ys=l'.map Value.ref:=by
 let f:Value->Addr:=λv=>match v with
  | .ref a=>a
  | _=>0
 have e:∀l:A3,(l.map Value.ref).map f=l:=λl=>by rw[Xm];exact List.map_id _
 refine⟨ys.map f,by have:=h.map f;rwa [e]at this,?_⟩;rw[Xm];refine(List.map_id _).symm.trans (XW λv hv=>?_);obtain⟨a,_,rfl⟩:=Qm.mp (h.mem_iff.mp hv);rfl
section
variable {P:Program} {w:World} {H:Hp} {h:Heap} {a:Addr}
theorem j0 {kvs:List (ax × V)} (ok:HOk P w H h) (e:Rd H a (.dT kvs)):(a==sysModules)=false/\kvs.length<=sizeLine/\∃(es:Array DictEntry) (ep:Nat) (bs:A3),DR.At h a es ep/\es.toList.map (·.key)=bs.map Value.ref/\KsA H bs (kvs.map (·.1)):=by
 obtain⟨z,y,xs,r,o,es,ep,h1,h2,h3,h4,h5⟩:=(show a_ P w H h a (.dT kvs) from rQ ok e);refine⟨y,z,es,ep,xs.map (·.2.1),?_,by rw[h4,Xm,Xm];rfl,?_⟩
 ·obtain⟨c,d,dt,sl⟩:=o;obtain⟨e1,e2,e3⟩:=h2;dsimp only at e1 e2 e3 h3;subst e1 e2 e3 h3;exact h1
 clear h4 h5 z e
 induction r with
 | nil=>exact .nil
 | cons q _ ih=>exact .cons q.2.1 ih
end
def yQ (K:PySem.W.Frag) (H:Hp) (l:Addr) (ks:List ax):Prop:=(∃bs:A3,SqL K H l (bs.map V.ref)/\KsA H bs ks)\/∃kvs,Rd H l (.dT kvs)/\kvs.map (·.1)=ks
def rb (b:Bool) (ks:List ax):Prop:=(∀x∈ks,∀y∈ks,x.map Tm.sh2=y.map Tm.sh2)/\∀x∈ks,if b=true then ∃k r,x=.inl (.inr k)::r else ∃k r,x=.inr k::r
abbrev leF (x y:ax):Prop:=Tm.leK (Tm.flat x) (Tm.flat y)
def mS (K:PySem.W.Frag):List V->Hp->VK->Prop:=λxs H Q=>∃(l:Addr) (ks:List ax) (b:Bool),xs=[.ref l]/\yQ K H l ks/\rb b ks/\ks.length<64 /\
 ∀(p:Addr) (bs':A3) (ks':List ax),H p=none->KsA H bs' ks'->ks'.Perm ks->ks'.Pairwise leF->Q (.ref p) (upd H p (.lst (bs'.map V.ref)))
section
variable {X:Cx}
theorem cZ (hc:X.calm=true) (hu:X.A.units+8<cLine):cM X (.builtin "sorted") (mS X.K):=by
 intro pins s U H xs us Q I r h;obtain⟨l,ks,b,rfl,src,sp,hz,q⟩:=h;obtain⟨u,rfl,ru⟩:=cT r;cases ru
 have main:∀bs:A3,KsA H bs ks->(∀(A:Around) (E:A0) (R:List Value->Shared->Prop),A.handled=none->(∀h' tk vs,(∀b o,s.heap.get? b=some o->h'.get? b=some o)->s.heap.objs.size<=h'.objs.size->vs=bs.map Value.ref->R vs { s with heap:=h',toks:=tk })->wpAny (model X.prog X.w) A (collect (.ref l)) R E s) ->
   wpAny (model X.prog X.w) X.A (call (.builtin "sorted") [.ref l]) (EP X pins U Q) X.xe s:=λbs ka col=>by
  obtain⟨ek,tk⟩:=ka.tk;have bl:bs.length=ks.length:=by rw[ek,Qc]
  have mem:∀{c},c∈bs->cU H c∈ks:=λhc=>by rw[ek];exact Qm.mpr ⟨_,hc,rfl⟩
  refine Tm.pY (s:=s) (up:=λA=>A.units<cLine) (κ:=λ_=>Tm.lO bs (cU H)) (kd:=tuples' b) (G:=λ_ vs=>vs=bs.map Value.ref) col (I.ok.hd hc) (show X.A.units+1+1<cLine by omega) (λh' vs D k g hD=>?_) (λD h' tk' vs h1 out m k1 g1 k2 hle hD at' p1 p2=>?_)
  ·subst g;refine⟨by rw[Qc,bl];exact hz,Tm.l_ (o:=seqObj "list" (bs.map Value.ref).toArray 0) (by rw[hD];exact Qn _ rfl) (λz=>absurd (Value.type.inj z) (by decide)) (λc hc=>?_) ⟨λa ha c hc=>sp.1 _ (mem ha) _ (mem hc),λa ha=>sp.2 _ (mem ha)⟩⟩;exact Tm.bY (dH I.hok (tk c hc)) λb o e _=>Qb _ (k _ _ e)
  subst g1;obtain⟨bs',pm,eo⟩:=iU p1;rw[eo,QN]at p2;have tk':∀b∈bs',bH H (cU H b) b:=λb hb=>tk b (pm.mem_iff.mp hb)
  have so:(bs'.map (cU H)).Pairwise leF:=by
   rw[QN];refine p2.imp_of_mem λ{a c} ha hc hq=>?_;have hq:Tm.lb (((Tm.lO bs (cU H)).keyOf (.ref c)).getD []) (((Tm.lO bs (cU H)).keyOf (.ref a)).getD [])=false:=hq;rw[Tm.fo _ (pm.mem_iff.mp ha),Tm.fo _ (pm.mem_iff.mp hc)]at hq;exact hq
  refine⟨.ref D,_,I.laid (o:=.lst (bs'.map V.ref)) (t':=_) (λb o g=>k2 b o (k1 b o g)) hle ⟨by rw[Qc,pm.length_eq,bl,XY];omega,out.toList,m,by rw[eo];exact fG _,by rw[Array.toArray_toList];exact at'⟩,rfl,q _ bs' _ (I.hok.fresh hle) (nB tk') (by rw[ek];exact pm.map _) so⟩
 rcases src with⟨bs,hl,ka⟩|⟨kvs,rd,ek⟩
 ·obtain⟨its,rv,pl,_⟩:=I.list hl;refine main bs ka λA E R _ hR=>collect_list pl.isList (hR _ _ its (λb o e=>?_) (by rw[Heap.size_update,size_push'];exact XX _) (eO rv)) (by rw[<-rv.length,Qc,Xo ka,XY];omega);exact(Xl _ _ (X0 (Qo e))).trans (Qb _ e)
 obtain⟨y,z,es,ep,bs,da,ee,ka⟩:=j0 I.hok rd;rw[ek]at ka
 have ez:es.size=ks.length:=by
  have:=congrArg List.length ee;rw[Qc,Qc,Qg]at this;rw[this,Xo ka]
 refine main bs ka λA E R hA hR=>Tm.tW (DR.src (es:=es) (ep:=ep) y) hA da (by rw[ez,XY];omega) λh' tk acc k z it=>hR h' tk acc.toList k z ?_;rw[<-ee];refine List.ext_getElem? λj=>?_;rw[Qv];by_cases hj:j<es.size
 ·have ha:j<acc.size:=by rw[it.1];exact hj
  obtain⟨e,e1,e2⟩:=it.2 j acc[j] (QG ha);rw[QV,QV,QG ha,e1,e2];rfl
 rw[Q8 (by rw[Qg,it.1];omega),Q8 (by rw[Qg];omega)];rfl
end
def vOf:Value->V
 | .none=>.non
 | .bool b=>.bl b
 | .int i _=>.int i
 | .str x _=>.str x
 | .bytes b _=>.byt b
 | .float b _=>.flt b
 | .ref a=>.ref a
 | .type n=>.ty n
 | _=>.non
theorem mE {x:V} {u:Value} (r:aU x u):vOf u=x:=by
 cases x with
 | int i=>obtain⟨t,rfl⟩:=r;rfl
 | str z=>obtain⟨t,rfl⟩:=r;rfl
 | byt b=>obtain⟨t,rfl⟩:=r;rfl
 | flt b=>obtain⟨t,rfl⟩:=r;rfl
 | _=>cases r;rfl
theorem kB:∀{xs:List V} {us:List Value},aO xs us->us.map vOf=xs
 | _,_,.nil=>rfl
 | _,_,.cons r t=>by rw[Qt,mE r,kB t]
theorem pM {xs:List V} {us:List Value} (r:aO xs us) (e:V->Bool):us.any (λu=>e (vOf u))=xs.any e:=by rw[<-kB r,List.any_map];rfl
section
variable {X:Cx}
theorem EqD.mems {pins:A1} {U:St} {H:Hp} {s:Shared} (I:Inv X pins U H s) {A:Around} (hu:A.units+8<cLine) {x:V} {v:Value} (rx:aU x v) {e:V->Bool}:∀{xs:List V} {us:List Value},aO xs us->(∀y∈xs,EqD X.K H 8 y x (e y))->∀u∈us,SeqAt.EqAt A s u v (e (vOf u))
 | _,_,.nil,_=>λu hu=>by cases hu
 | y::xs,u::us,.cons r t,f=>λu' hu'=>by
  rcases Qk.mp hu' with rfl|hu'
  ·rw[mE r];exact EqD.at I (f y (by simp)) hu r rx
  exact EqD.mems I hu rx t (λy hy=>f y (Qu _ hy)) u' hu'
def wI (K:PySem.W.Frag) (neg:Bool):R2:=λx y H Q=>∃(p:Addr) (ys:List V) (e:V->Bool),y=.ref p/\(SqL K H p ys\/SqT K H p ys)/\(∀v∈ys,EqD K H 8 v x (e v))/\Q (.bl (if neg then !(ys.any e) else ys.any e)) H
theorem wQ (hu:X.A.units+64<cLine):OpR X (compareOp .In) (wI X.K false):=by
 intro pins s U H x y v u Q I rx ry h;obtain⟨p,xs,e,rfl,hq,f,q⟩:=h;cases ry;have hu':X.A.in1.units+8<cLine:=show X.A.units+1+8<cLine by omega
 rcases hq with hq|hq
 ·obtain⟨its,r,pl,hz⟩:=I.list hq;refine SeqAt.in_listAt (λu=>e (vOf u)) pl.isList (λw hw=>EqD.mems I hu' rx r f w (by simpa using hw)) ⟨.bl _,H,I,rfl,?_⟩;rw[show its.toArray.any (λu=>e (vOf u))=its.any (λu=>e (vOf u)) by simp,pM r];exact q
 obtain⟨its,r,pl,hz⟩:=I.tuple hq;refine SeqAt.in_tupleAt (λu=>e (vOf u)) pl (λw hw=>EqD.mems I hu' rx r f w (by simpa using hw)) ⟨.bl _,H,I,rfl,?_⟩;rw[show its.toArray.any (λu=>e (vOf u))=its.any (λu=>e (vOf u)) by simp,pM r];exact q
def oG (K:PySem.W.Frag):V->List V->Hp->VK->Prop:=λx vs H Q=>∃(l:Addr) (ys:List V) (y:V) (e:V->Bool) (j:Nat) (z:V),x=.ref l/\vs=[y]/\SqL K H l ys/\(∀v∈ys,EqD K H 8 v y (e v))/\ys[j]?=some z/\e z=true/\(∀m v,m<j->ys[m]?=some v->e v=false)/\Q (.int j) H
theorem cR (hu:X.A.units+64<cLine):MtR X "list.index" (oG X.K):=by
 intro pins s U H x vs v us Q I rx rv h;obtain⟨l,ys,y,e,j,z,rfl,rfl,hl,f,hj,ez,no,q⟩:=h;cases rx;obtain⟨u,rfl,ru⟩:=cT rv;obtain⟨its,r,pl,hz⟩:=I.list hl;obtain⟨o,ho,hc,n,hd⟩:=pl.isList;obtain⟨ocls,odict,odata,oslots⟩:=o;dsimp only at hc hd;subst hc hd;have hu':X.A.in1.units+8<cLine:=show X.A.units+1+8<cLine by omega
 obtain⟨w1,hw1,rw1⟩:=r.get hj;have hjl:=(Qf.mp hw1).1
 have at_:∀m (hm:m<its.toArray.size),∃v,ys[m]?=some v/\vOf its.toArray[m]=v:=λm hm=>by
  have hm:m<its.length:=by simpa using hm
  have hm2:m<ys.length:=by rw[r.length];exact hm
  obtain⟨w,hw,rw'⟩:=r.get (Qd hm2);rw[Qd hm]at hw;cases hw;exact⟨_,Qd hm2,mE rw'⟩
 refine call_meets F.slot_list_index ⟨_,ho,rfl⟩ F.entry_list_index (F.args_list_index_2 _ _) (SeqAt.list_indexAt l its.toArray n odict oslots u (λu=>e (vOf u)) j (by simpa using hjl) ?_ ?_ (λm hm hmj=>?_)) ⟨ho,?_,?_⟩
 ·rw[XY]at hz;have:=(Qf.mp hj).1;omega
 ·obtain⟨v,hv,ev⟩:=at_ j (by simpa using hjl);rw[hj]at hv;cases hv;rw[ev];exact ez
 ·obtain⟨v,hv,ev⟩:=at_ m hm;rw[ev];exact no m v hmj hv
 ·exact λw hw=>EqD.mems I hu' ru r f w (by simpa using hw)
 exact⟨.int j,H,I.tok _,⟨_,rfl⟩,q⟩
end
theorem pD (a b:Key) (h:Tm.sh1 a=Tm.sh1 b):eqV (kV a) (kV b)=decide (a=b):=by
 cases a with
 | inl i=>cases b with
  | inl j=>rw[s_];rfl
  | inr y=>cases h
 | inr x=>cases b with
  | inl j=>cases h
  | inr y =>
   rw[sZ];show (x==y)=_;by_cases e:x=y
   ·subst e;simp
   rw[Qy e];exact beq_eq_false_iff_ne.mpr e
theorem gn (k:Key):bZ (kV k)=true:=by cases k <;> rfl
variable {n ep:Nat}
theorem u_ {K:PySem.W.Frag} {x y:List Key} (ha:H a=some (.tup (x.map kV))) (hb:H b=some (.tup (y.map kV))) (e:x.map Tm.sh1=y.map Tm.sh1):EqD K H (n+1) (.ref a) (.ref b) (decide (x=y)):=by
 have len:x.length=y.length:=by have:=congrArg List.length e;simpa using this
 by_cases c:a=b
 ·subst c;rw[ha]at hb;cases jQ (HO.tup.inj (QH hb));rw[QA rfl];exact .same
 have q:=EqD.tups (K:=K) (n:=n) (e:=λj=>decide (x[j]?=y[j]?)) (SqT.of ha) (SqT.of hb) (λj u v e1 e2=>?_) c
 ·have:((List.range (min (x.map kV).length (y.map kV).length)).all (λj=>decide (x[j]?=y[j]?))&&(x.map kV).length==(y.map kV).length)=decide (x=y):=by
   rw[Qc,Qc,len,Nat.min_self,beq_self_eq_true,Bool.and_true,XS,Xb,decide_eq_true_iff]
   constructor
   ·intro h;refine List.ext_getElem? λj=>?_;by_cases hj:j<y.length
    ·exact XQ (h j (Xz.mpr hj))
    rw[Q8 (by omega),Q8 (by omega)]
   rintro rfl j _;simp
  rw[this]at q;exact q
 rw[Qv]at e1 e2;obtain⟨k1,h1,rfl⟩:=XD.mp e1;obtain⟨k2,h2,rfl⟩:=XD.mp e2;have s:=congrArg (·[j]?) e;simp only[Qv,h1,h2]at s;have s:Tm.sh1 k1=Tm.sh1 k2:=QH s;rw[h1,h2,show decide (some k1=some k2)=decide (k1=k2) by simp,<-pD _ _ s];exact .flat (gn _) (gn _)
theorem ib {H:Hp}:∀{k:ax} {vs:List V} {j:Nat} {v:V},Paired (KIt H) k vs->vs[j]?=some v->∃x,k[j]?=some x/\KIt H x v
 | _,_,_,_,.nil,e=>by simp at e
 | _,_,0,_,.cons r _,e=>by simp at e;subst e;exact⟨_,rfl,r⟩
 | _,_,j+1,_,.cons _ t,e=>by obtain⟨x,h1,h2⟩:=ib (j:=j) t (by simpa using e);exact⟨x,by simpa using h1,h2⟩
theorem xt {K:PySem.W.Frag} {k1 k2:Key ⊕ List Key} {u v:V} (r1:KIt H k1 u) (r2:KIt H k2 v) (s:Tm.sh2 k1=Tm.sh2 k2):EqD K H (n+1) u v (decide (k1=k2)):=by
 cases k1 with
 | inl k1=>cases k2 with
  | inr _=>cases s
  | inl k2 =>
   cases r1;cases r2;have s:Tm.sh1 k1=Tm.sh1 k2:=Sum.inl.inj s;rw[show decide ((Sum.inl k1:Key ⊕ List Key)=Sum.inl k2)=decide (k1=k2) by simp,<-pD _ _ s];exact .flat (gn _) (gn _)
 | inr k1=>cases k2 with
  | inl _=>cases s
  | inr k2 =>
   obtain⟨c1,rfl,r1⟩:=r1;obtain⟨c2,rfl,r2⟩:=r2;have s:k1.map Tm.sh1=k2.map Tm.sh1:=Sum.inr.inj s;rw[show decide ((Sum.inr k1:Key ⊕ List Key)=Sum.inr k2)=decide (k1=k2) by simp];exact u_ r1 r2 s
theorem t4 (len:x.length=y.length):((List.range y.length).all λj=>decide (x[j]?=y[j]?))=decide (x=y):=by
 rw[XS,Xb,decide_eq_true_iff]
 constructor
 ·intro h;refine List.ext_getElem? λj=>?_;by_cases hj:j<y.length
  ·exact XQ (h j (Xz.mpr hj))
  rw[Q8 (by omega),Q8 (by omega)]
 rintro rfl j _;simp
theorem tw {K:PySem.W.Frag} {vs us:List V} (p1:Paired (KIt H) x vs) (p2:Paired (KIt H) y us) (e:x.map Tm.sh2=y.map Tm.sh2) (j:Nat) (u v:V) (e1:vs[j]?=some u) (e2:us[j]?=some v):EqD K H (n+1) u v (decide (x[j]?=y[j]?)):=by
 obtain⟨k1,g1,r1⟩:=ib p1 e1;obtain⟨k2,g2,r2⟩:=ib p2 e2;have s:=congrArg (·[j]?) e;simp only[Qv,g1,g2]at s;rw[g1,g2,show decide (some k1=some k2)=decide (k1=k2) by simp];exact xt r1 r2 (QH s)
theorem tN {K:PySem.W.Frag} {n:Nat} (ha:bH H x a) (hb:bH H y b) (e:x.map Tm.sh2=y.map Tm.sh2):EqD K H (n+2) (.ref a) (.ref b) (decide (x=y)):=by
 have len:x.length=y.length:=by have:=congrArg List.length e;simpa using this
 by_cases c:a=b
 ·subst c;rw[ha.inj hb,QA rfl];exact .same
 obtain⟨vs,h1,p1⟩:=ha;obtain⟨us,h2,p2⟩:=hb;have l1:=Xo p1;have l2:=Xo p2;have q:=EqD.tups (K:=K) (n:=n+1) (e:=λj=>decide (x[j]?=y[j]?)) (SqT.of h1) (SqT.of h2) (tw p1 p2 e) c;rwa [<-l1,<-l2,len,Nat.min_self,beq_self_eq_true,Bool.and_true,t4 len]at q
theorem yk {K:PySem.W.Frag} {neg:Bool} {Q:VK} (ha:bH H x a) (hb:bH H y b) (e:x.map Tm.sh2=y.map Tm.sh2) (q:Q (.bl (if neg=true then !decide (x=y) else decide (x=y))) H):mT K neg (.ref a) (.ref b) H Q:=by
 have len:x.length=y.length:=by have:=congrArg List.length e;simpa using this
 obtain⟨vs,h1,p1⟩:=ha;obtain⟨us,h2,p2⟩:=hb;have l1:=Xo p1;have l2:=Xo p2;refine⟨a,b,vs,us,λj=>decide (x[j]?=y[j]?),rfl,rfl,SqT.of h1,SqT.of h2,tw p1 p2 e,?_⟩;rw[<-l1,<-l2,len,Nat.min_self,beq_self_eq_true,Bool.and_true,t4 len];exact q
def t_ (a:Addr) (o:Obj) (kvs:List (ax × V)):It :=
 ⟨λi H=>H a=some (.frz o (.dT kvs))/\i<kvs.length,λi H x H'=>H'=H/\∃k v b,kvs[i]?=some (k,v)/\x=.ref b/\bH H k b,λi H=>H a=some (.frz o (.dT kvs))/\kvs.length<=i⟩
theorem jY {X:Cx} {pins:A1} {U:St} {s:Shared} {o:Obj} {es:Array DictEntry} {kvs:List (ax × V)} (I:Inv X pins U H s) (h:H a=some (.frz o (.dT kvs))) (hd:o={ cls:=.type "dict", data:=.dict es ep }) :
  (a==sysModules)=false/\DR.At s.heap a es ep/\es.size=kvs.length/\∃bs:A3,es.toList.map (·.key)=bs.map Value.ref/\KsA H bs (kvs.map (·.1)):=by
 obtain⟨y,z,es',ep',bs,e1,e2,e3⟩:=j0 I.hok (.inr ⟨o,h⟩);obtain⟨e4,_⟩:=I.hok a _ h;rw[e1,hd]at e4;cases e4;have:=congrArg List.length e2;rw[Qc,Qc,Qg,Xo e3,Qc]at this;exact⟨y,e1,this,bs,e2,e3⟩
theorem pd {H:Hp}:∀{bs:A3} {ks:List ax} {i:Nat} {k:ax},KsA H bs ks->ks[i]?=some k->∃b,bs[i]?=some b/\bH H k b
 | _,_,_,_,.nil,e=>by simp at e
 | _,_,0,_,.cons r _,e=>by simp at e;subst e;exact⟨_,rfl,r⟩
 | _,_,i+1,_,.cons _ t,e=>by obtain⟨b,h1,h2⟩:=pd (i:=i) t (by simpa using e);exact⟨b,by simpa using h1,h2⟩
theorem mI {P:Program} {w:World} {K:PySem.W.Frag} {tg:Expr} (a it:Addr) (o:Obj) (kvs:List (ax × V)) (es:Array DictEntry) (ep:Nat) (hd:o={ cls:=.type "dict", data:=.dict es ep }):Turn P w K tg (t_ a o kvs) [it] it (λi h=>DR.IAt h it a i kvs.length ep) where
 mem:=by simp
 obj:=λi h st b hb=>by
  have e:b=it:=by simpa using hb
  subst e;exact⟨_,st,λv z=>nomatch z⟩
 keep:=λi h h' st k=>k it (by simp) _ st
 item:=by
  intro X hP hw hK hc i pins s U H E I hf st hg;subst hP hw hK;obtain⟨hz,hi⟩:=hg;obtain⟨_,da,ez,bs,e2,e3⟩:=jY I hz hd;obtain⟨⟨k,v⟩,hx⟩:∃p,kvs[i]?=some p:=⟨kvs[i],by simp[hi]⟩;obtain⟨b,hb,tb⟩:=pd (i:=i) (k:=k) e3 (by rw[Qv,hx];rfl);have hi':i<es.size:=by omega
  have hk:es[i].key=.ref b:=by
   have e:=congrArg (·[i]?) e2;simp only[Qv,hb,QV,QG hi']at e;exact QH e
  obtain⟨f0,f1,f2,f3,f4,f5⟩:=hf it (by simp);have st0:=st;rw[<-ez]at st0;refine DR.nxt st0 da hi' λh' st' sb=>?_;have I1:Inv X pins U H { s with heap:=h' }:=I.turned (t':=s.toks) (λb o hb e=>(sb.2 b hb).trans e) f0 f1 f3 f4 f5;rw[ez]at st';rw[hk];exact⟨.ref b,rfl,pq (s:={ s with heap:=h' }) st' rfl rfl (by decide) ⟨.ref b,H,I1,rfl,⟨rfl,k,v,b,hx,rfl,tb⟩,st',λb hb=>(hf b hb).1⟩⟩
 done:=by
  intro X hP hw hK hc i pins s U H E I hf st hg;subst hP hw hK;obtain⟨hz,hi⟩:=hg;obtain⟨_,da,ez,bs,e2,e3⟩:=jY I hz hd;obtain⟨f0,f1,f2,f3,f4,f5⟩:=hf it (by simp);rw[<-ez]at st;exact DR.stp (I.ok.hd hc) st da (by omega) λh' eb=>⟨rfl,I.turned (t':=s.toks) (λb o hb e=>eb b o hb e) f0 f1 f3 f4 f5⟩
 self:=λ_ _ _ _ _ st h=>DR.self st h
def xn (tl:TE):TI:=λU H R=>tl U H λx H1=>∃a o kvs,x=.ref a/\H1 a=some (.frz o (.dT kvs))/\R (t_ a o kvs) H1
theorem r8 {X:Cx} {tg l:Expr} {tl:TE} (hl:PE X l tl):PI X tg l (xn tl):=by
 intro pins s U H R I h;refine thn (hl pins s U H _ I h) λv s1 ⟨x,H1,I1,r1,q1⟩=>?_;obtain⟨a,o,kvs,e,hz,q⟩:=q1;subst e;cases r1;obtain⟨y,z,es,ep,bs,e1,e2,e3⟩:=j0 I1.hok (.inr ⟨o,hz⟩);obtain⟨e4,_⟩:=I1.hok a _ hz;have eo:o={ cls:=.type "dict", data:=.dict es ep }:=QH (e4.symm.trans e1);obtain⟨_,_,ez,_⟩:=jY I1 hz eo;refine DR.iter y e1 ?_;refine⟨s1.heap.objs.size,[s1.heap.objs.size],_,_,H1,rfl,I1.kept (t':=s1.toks) λb o e=>Qb _ e,mI a _ o kvs es ep eo,by rw[ez];exact Qn _ rfl,λb hb=>?_,q⟩;have e:b=s1.heap.objs.size:=by simpa using hb
 subst e;exact I1.fpOk (Qj _) (I1.hok.fresh (Qj _))
section
variable {X:Cx}
theorem qY:cM X (.builtin "len") (λxs H Q=>∃a kvs,xs=[V.ref a]/\H a=some (.dT kvs)/\Q (.int kvs.length) H):=by
 intro pins s U H xs us Q I r h;obtain⟨a,kvs,rfl,ha,q⟩:=h;obtain⟨u,rfl,ru⟩:=cT r;cases ru;obtain⟨y,z,es,ep,bs,da,e2,e3⟩:=j0 I.hok (.inl ha);have ez:=congrArg List.length e2;rw[Qc,Qc,Qg,Xo e3,Qc]at ez;have hT:s.TypeIs (.ref a) "dict" := ⟨_,da,rfl⟩;refine Calls.call_function_entry kind_len plain_len entry_len (args_len1 _) ?_;have fit:(es.size:Int)<2 ^ 63:=by rw[ez];rw[XY]at z;omega
 refine Qa (m:=oneArg _ _) (Qe (Qa (Q7 (name:=Str.ofString "__len__") hT F.slot_dict_len (QZ F.slot_dict_len hT F.entry_dict_len ?_ (F.args_dict_len_1 _)))));unfold Builtin.«dict.__len__»
 wp_walk
 refine⟨_,rfl,?_⟩;have n0:¬((es.size:Int)+((0:Nat):Int)<0):=by omega
 have n1:¬((es.size:Int)+((0:Nat):Int)>=2 ^ 63):=by omega
 wp_walk
 rw[Qq n1]
 wp_walk
 exact⟨_,rfl,.int kvs.length,H,I.tok _,⟨s.toks+1,by rw[ez];simp⟩,q⟩
def wx (tk tv:TE):TE:=λU H Q=>∀p,H p=none->tk U (upd H p (.dT [])) λx H1=>tv U H1 λy H2=>H2 p=some (.dT [])/\∃b k,x=.ref b/\bH H2 k b/\Q (.ref p) (upd H2 p (.dT [(k,y)]))
theorem sj {k v:Expr} {pos:Pos} {tk tv:TE} (hu:X.A.units+8<cLine) (hk:PE X k tk) (hv:PE X v tv):PE X (.Dict [some k] [v] pos) (wx tk tv):=by
 intro pins s U H Q I q;have hn:=I.hok.fresh (Qj s.heap.objs.size);have I1:=I.laid (a:=s.heap.objs.size) (o:=.dT []) (h':=s.heap.push { cls:=.type "dict", data:=.dict #[] }) (t':=s.toks) (λ_ _ q=>Qb _ q) (Qj _) (lW s.heap I.big);rw[arm_eval_Dict,zip_pairTrees [some k] [v] X.env pos rfl rfl,dictDisplay_pairs (pairTrees [some k] [v] X.env pos) (by simp[pairTrees]) (by simp[pairTrees])];refine Qa (wpAny_standAt ?_);unfold subDict;refine Qa (Qa (wpAny_alloc (Qa (QT ?_))));rw[Qs (by simp[pairTrees])];refine Qa (pairTrees_cons_walk (thn (hk pins _ U _ _ I1 (q _ hn)) λu s1 ⟨x,H1,I2,rx,q1⟩=>thn (hv pins s1 U H1 _ I2 q1) λw2 s2 ⟨y,H2,I3,ry,e,b,kk,ex,tb,q2⟩=>pairTrees_nil_walk ?_));subst ex;obtain rfl:u=.ref b:=rx;obtain⟨z,hd,xs,rel,dd⟩:=wa I3.hok e;cases rel;refine QT ?_;rw[XH];dsimp only;refine Qa (Qa (Qa (wpAny_dictSet_heap (knd:=bg X.prog X.w) (show X.A.units+1<cLine by omega) (dH I3.hok tb) dd λh' dd' hs=>Qe ?_)));dsimp only;rw[XZ];refine Qe (Qe (Qe (Qe ⟨.ref s.heap.objs.size,_,?_,rfl,q2⟩)));obtain⟨q,es,ep,hq,h2,h3,h4,_,h5⟩:=dd';refine j3 I3 (by rw[e];exact True.intro) hs ⟨q,hq⟩ ⟨QK (by simp) (show 1<=sizeLine by decide),hd,[(kk,b,w2)],.cons ⟨rfl,tb.keeps λc ys ec=>?_,ry⟩ .nil,q,es,ep,hq,h2,h3,h4,h5⟩;rw[aq (vU ec e (λz=>nomatch z))];exact ec
end
end L2
namespace Ht
open PySem PySem.SetTable
def itn {α:Type} (f:α->α):Nat->α->α
 | 0,x=>x
 | n+1,x=>itn f n (f x)
theorem db {α:Type} (f:α->α):∀(m n:Nat) (x:α),itn f (m+n) x=itn f n (itn f m x)
 | 0,n,x=>by rw[Nat.zero_add];rfl
 | m+1,n,x=>by rw[Nat.succ_add];exact db f m n (f x)
def Msk (m:Nat):Prop:=m=7\/m=31\/m=127
def lp (m i:Nat):Nat:=(i*5+1+0) % (m+1)
variable {m s j i:Nat}
theorem yN (hm:Msk m):(∀e,e<m+1->∃d,d<m+1/\itn (lp m) d 0=e)/\itn (lp m) (m+1) 0=0:=by
 rcases hm with rfl|rfl|rfl <;> exact⟨by decide +kernel,by decide +kernel⟩
theorem cyc {e:Nat} (hm:Msk m) (hs:s<m+1) (he:e<m+1):∃d,d<m+1/\itn (lp m) d s=e:=by
 obtain⟨all,z⟩:=yN hm;obtain⟨a,ha,rfl⟩:=all s hs;obtain⟨b,hb,rfl⟩:=all e he;by_cases c:a<=b
 ·exact⟨b-a,by omega,by rw[<-db];congr 1;omega⟩
 refine⟨b+(m+1)-a,by omega,?_⟩;rw[<-db,show a+(b+(m+1)-a)=(m+1)+b by omega,db,z]
def lps (m:Nat) (x:Nat × Nat):Nat × Nat:=leap m x.1 x.2
theorem o0 (m:Nat):∀n x,(itn (lps m) n x).2=x.2 / 32 ^ n
 | 0,x=>by simp[itn]
 | n+1,x=>by
  show (itn (lps m) n (lps m x)).2=_;rw[o0 m n];show x.2 / 32 / 32 ^ n=_;rw[Nat.div_div_eq_div_mul,Nat.pow_succ,Nat.mul_comm]
theorem lI (m:Nat):∀n i,itn (lps m) n (i,0)=(itn (lp m) n i,0)
 | 0,i=>rfl
 | n+1,i=>by
  show itn (lps m) n (lps m (i,0))=_;rw[show lps m (i,0)=(lp m i,0) by simp[lps,leap,lp]];exact lI m n (lp m i)
theorem sV {m:Nat}:∀n x,x.1<m+1->(itn (lps m) n x).1<m+1
 | 0,x,h=>h
 | n+1,x,h=>sV n (lps m x) (Nat.mod_lt _ (Nat.succ_pos _))
theorem wb {e:Nat} {x:Nat × Nat} (hm:Msk m) (h1:x.1<m+1) (h2:x.2<2 ^ 64) (he:e<m+1):∃n,n<m+14/\(itn (lps m) n x).1=e:=by
 have z:(itn (lps m) 13 x).2=0:=by rw[o0];exact Nat.div_eq_of_lt (Nat.lt_trans h2 (by decide))
 have l:=sV (m:=m) 13 x h1;obtain⟨d,hd,ed⟩:=cyc hm l he;refine⟨13+d,by omega,?_⟩;rw[db,show itn (lps m) 13 x=((itn (lps m) 13 x).1,0) from by rw[<-z],lI];exact ed
def adv (m:Nat) (p:Probe):Probe:=if p.more>0 then { p with j:=p.j+1,more:=p.more-1 } else let (i,perturb):=leap m p.i p.perturb;{ p with j:=i,more:=runEnd m i-i,i,perturb }
def beg (m:Nat) (x:Nat × Nat):Probe:={ j:=x.1,more:=runEnd m x.1-x.1,i:=x.1,perturb:=x.2,dummy:=none }
theorem rE (t:SetTable) (h:Int):t.probeStart h=beg t.mask (bits h % (t.mask+1),bits h):=rfl
theorem wC (m i:Nat):runEnd m i-i<=9:=by unfold runEnd;split <;> omega
theorem km (m:Nat):∀(k:Nat) (p:Probe),p.more=k->p.dummy=none->itn (adv m) (k+1) p=beg m (lps m (p.i,p.perturb))
 | 0,p,h,hd=>by
  show adv m p=_;unfold adv;rw[Qq (by omega)];obtain⟨j,more,i,pe,d⟩:=p;dsimp only at hd;subst hd;rfl
 | k+1,p,h,hd=>by
  have e:adv m p={ p with j:=p.j+1,more:=p.more-1 }:=Qs (by omega);show itn (adv m) (k+1) (adv m p)=_;rw[e];exact km m k { p with j:=p.j+1,more:=p.more-1 } (by show p.more-1=k;omega) hd
theorem ju (m:Nat):∀(n:Nat) (x:Nat × Nat),∃c,c<=10*n/\itn (adv m) c (beg m x)=beg m (itn (lps m) n x)
 | 0,x=>⟨0,Qj _,rfl⟩
 | n+1,x=>by
  obtain⟨c,hc,e⟩:=ju m n (lps m x);have r:=wC m x.1;refine⟨(beg m x).more+1+c,by show runEnd m x.1-x.1+1+c<=_;omega,?_⟩;rw[db,km m _ (beg m x) rfl rfl];exact e
def Emp (m:Nat) (L:Nat->Prop):Nat->Probe->Prop
 | 0,p=>¬L p.j
 | n+1,p=>L p.j/\Emp m L n (adv m p)
theorem tS {m:Nat} {L:Nat->Prop}:∀(n:Nat) (p:Probe),¬L (itn (adv m) n p).j->∃k,k<=n/\Emp m L k p
 | 0,p,h=>⟨0,Qj _,h⟩
 | n+1,p,h=>by
  by_cases c:L p.j
  ·obtain⟨k,hk,e⟩:=tS n (adv m p) h;exact⟨k+1,by omega,c,e⟩
  exact⟨0,QU _,c⟩
theorem qS {e:Nat} {L:Nat->Prop} (hm:Msk m) (h:Int) (he:e<m+1) (ne:¬L e):∃n,n<10*turns m/\Emp m L n (beg m (bits h % (m+1),bits h)):=by
 have hb:bits h<2 ^ 64:=by
  unfold bits;have h1:0<=h % (2 ^ 64:Int):=Int.emod_nonneg _ (by decide);have h2:h % (2 ^ 64:Int)<2 ^ 64:=Int.emod_lt_of_pos _ (by decide);omega
 obtain⟨n,hn,ee⟩:=wb (x:=(bits h % (m+1),bits h)) hm (Nat.mod_lt _ (Nat.succ_pos _)) hb he;obtain⟨c,hc,ec⟩:=ju m n (bits h % (m+1),bits h);obtain⟨k,hk,em⟩:=tS (m:=m) (L:=L) c (beg m (bits h % (m+1),bits h)) (by rw[ec];show ¬L (itn (lps m) n _).1;rw[ee];exact ne);exact⟨k,by unfold turns;omega,em⟩
inductive Rch (m:Nat) (L:Nat->Prop):Probe->Nat->Prop
 | here (p:Probe):Rch m L p p.j
 | step {p:Probe} {j:Nat}:L p.j->Rch m L (adv m p) j->Rch m L p j
theorem Rch.mono {L L':Nat->Prop} (f:∀j,L j->L' j) {p:Probe} (h:Rch m L p j):Rch m L' p j:=by
 induction h with
 | here p=>exact .here p
 | step a _ ih=>exact .step (f _ a) ih
theorem Emp.rch {L:Nat->Prop}:∀{n:Nat} {p:Probe},Emp m L n p->Rch m L p (itn (adv m) n p).j/\¬L (itn (adv m) n p).j
 | 0,p,h=>⟨.here p,h⟩
 | n+1,p,h=>⟨.step h.1 (Emp.rch h.2).1,(Emp.rch h.2).2⟩
def ko (l:List Nat):Prop:=l.Pairwise (·<·)
variable {l js:List Nat}
theorem ko.lt (r:ko l) {k:Nat} (h:i<k) (hk:k<l.length):l[i]<l[k]:=List.pairwise_iff_getElem.mp r i k (by omega) hk h
theorem nO {xs:Array Nat} {j:Nat} (r:ko xs.toList):∀(f lo hi:Nat),lo<=hi->hi<=xs.size->hi-lo<=f->(∀i (h:i<xs.toList.length),i<lo->xs.toList[i]<j)->(∀i (h:i<xs.toList.length),hi<=i->j<=xs.toList[i]) ->
  below.go xs j f lo hi<=xs.size/\(∀i (h:i<xs.toList.length),i<below.go xs j f lo hi->xs.toList[i]<j)/\∀i (h:i<xs.toList.length),below.go xs j f lo hi<=i->j<=xs.toList[i]
 | 0,lo,hi,h1,h2,h3,a,b=>by
  obtain rfl:lo=hi:=by omega
  exact⟨h2,a,b⟩
 | f+1,lo,hi,h1,h2,h3,a,b=>by
  unfold below.go;by_cases c:lo<hi
  ·rw[Qs c];have hz:xs.toList.length=xs.size:=Qg;have hm:(lo+hi) / 2<xs.toList.length:=by omega
   have e:xs.getD ((lo+hi) / 2) j=xs.toList[(lo+hi) / 2]:=by
    have:(lo+hi) / 2<xs.size:=by omega
    simp[Array.getD,this]
   dsimp only;rw[e];by_cases d:xs.toList[(lo+hi) / 2]<j
   ·rw[Qs d];refine nO r f _ hi (by omega) h2 (by omega) (λi h hx=>?_) b;by_cases z:i=(lo+hi) / 2
    ·subst z;exact d
    exact Nat.lt_trans (r.lt (show i<(lo+hi) / 2 by omega) hm) d
   rw[Qq d];refine nO r f lo _ (by omega) (by omega) (by omega) a λi h hx=>?_;by_cases z:i=(lo+hi) / 2
   ·subst z;omega
   have:=r.lt (show (lo+hi) / 2<i by omega) h;omega
  rw[Qq c];obtain rfl:lo=hi:=by omega
  exact⟨h2,a,b⟩
theorem bel {xs:Array Nat} (j:Nat) (r:ko xs.toList):below xs j<=xs.size/\(∀i (h:i<xs.toList.length),i<below xs j->xs.toList[i]<j)/\∀i (h:i<xs.toList.length),below xs j<=i->j<=xs.toList[i] :=
 nO r _ 0 xs.size (QU _) (Qj _) (by omega) (λi _ h=>absurd h (Nat.not_lt_zero _)) (λi h1 h2=>absurd h1 (by rw[Qg];omega))
theorem fB {t:SetTable} (r:ko t.place.toList) (h:t.place.toList[i]?=some j):t.slot j=.live i:=by
 obtain⟨b1,b2,b3⟩:=bel j r;obtain⟨hi,e⟩:=Qf.mp h
 have eb:below t.place j=i:=by
  by_cases c:i<below t.place j
  ·have:=b2 i hi c;omega
  by_cases d:below t.place j<i
  ·have h1:=b3 (below t.place j) (by omega) (Qj _);have h2:=r.lt d hi;omega
  omega
 unfold slot;dsimp only;rw[eb,<-QV,h];simp
theorem mN {t:SetTable} (hd:t.dummies=#[]) (h:j∉t.place.toList):t.slot j=.empty:=by
 unfold slot;dsimp only
 have n1:(t.place[below t.place j]?==some j)=false:=by
  cases c:t.place[below t.place j]? with
  | none=>rfl
  | some k =>
  have:k∈t.place.toList:=Ql (by rw[QV];exact c);have:k≠j:=λz=>h (z▸this);simpa using this
 rw[n1,hd];simp[has]
theorem lQ {α:Type} (xs:Array α) (p:Nat) (x:α) (h:p<=xs.size):(insertAt xs p x).toList=xs.toList.take p++x::xs.toList.drop p:=by
 unfold insertAt;rw[Array.toList_append,Array.toList_push,Array.toList_extract,Array.toList_extract];simp only[List.extract_eq_take_drop,List.drop_zero,Nat.sub_zero,List.append_assoc,List.singleton_append];congr 2;exact Xc (by rw[XI,Qg];exact Qj _)
structure Tb (t:SetTable) (hs:List Int):Prop where
 msk:Msk t.mask
 dum:t.dummies=#[]
 len:t.place.toList.length=hs.length
 up:ko t.place.toList
 bd:∀j∈t.place.toList,j<t.mask+1
 rch:∀q∈t.place.toList.zip hs,Rch t.mask (·∈t.place.toList) (t.probeStart q.2) q.1
variable {hs:List Int}
theorem Tb.fits {t:SetTable} (b:Tb t hs) (h:hs.length<=t.mask):t.fits hs.length=true:=by
 have:=b.len;rw[Qg]at this;simp[SetTable.fits,fill,b.dum,this,h]
theorem pC {m:Nat} (nd:l.Nodup) (h:l.length<m+1):∃e,e<m+1/\e∉l:=by
 by_cases c:∃e,e<m+1/\e∉l
 ·exact c
 exfalso
 have all:∀e,e∈List.range (m+1)->e∈l:=λe he=>by
  by_cases d:e∈l
  ·exact d
  exact absurd ⟨e,Xz.mp he,d⟩ c
 have le:∀(as bs:List Nat),as.Nodup->(∀x∈as,x∈bs)->as.length<=bs.length:=by
  intro as
  induction as with
  | nil=>intro bs _ _;exact QU _
  | cons a as ih =>
  intro bs nd h;have ha:=h a (by simp);have:=ih (bs.erase a) (QS.mp nd).2 λx hx=>(List.mem_erase_of_ne λe:x=a=>(QS.mp nd).1 (e▸hx)).mpr (h x (Qu _ hx));rw[List.length_erase_of_mem ha]at this;have:=List.length_pos_of_mem ha;simp only[Xh];omega
 have:=le _ l List.nodup_range all;rw[List.length_range]at this;omega
theorem ko.nodup (r:ko l):l.Nodup:=r.imp λh=>QF h
theorem Tb.put {t:SetTable} {h:Int} (b:Tb t hs) (hj:j<t.mask+1) (nj:j∉t.place.toList) (r:Rch t.mask (·∈t.place.toList) (t.probeStart h) j) :
  ∃p,p=(t.put j).2/\p<=hs.length/\(t.put j).1.mask=t.mask/\(t.put j).1.led=t.led/\(t.put j).1.plain=t.plain/\Tb (t.put j).1 (hs.take p++h::hs.drop p):=by
 obtain⟨b1,b2,b3⟩:=bel j b.up;have lz:t.place.size=hs.length:=by rw[<-Qg];exact b.len
 have nh:has t.dummies j=false:=by rw[b.dum];simp[has]
 refine⟨below t.place j,rfl,by omega,rfl,rfl,rfl,?_⟩;have pl:(t.put j).1.place.toList=t.place.toList.take (below t.place j)++j::t.place.toList.drop (below t.place j):=lQ _ _ _ b1
 have mem:∀x,x∈(t.put j).1.place.toList↔x=j\/x∈t.place.toList:=λx=>by
  rw[pl,Qw,Qk]
  conv=>rhs;rw[<-List.take_append_drop (below t.place j) t.place.toList,Qw]
  constructor
  ·rintro(h|h|h)
   ·exact .inr (.inl h)
   ·exact .inl h
   exact .inr (.inr h)
  rintro(h|h|h)
  ·exact .inr (.inl h)
  ·exact .inl h
  exact .inr (.inr h)
 have bl:=b.len;refine⟨b.msk,?_,?_,?_,λx hx=>?_,λq hq=>?_⟩
 ·show (if has t.dummies j=true then _ else t.dummies)=#[];rw[Qq (by rw[nh];simp)];exact b.dum
 ·rw[pl];simp only[Qh,Xh,QM,XI];omega
 ·rw[pl];refine List.pairwise_append.mpr ⟨b.up.sublist (List.take_sublist _ _),List.pairwise_cons.mpr ⟨λx hx=>?_,b.up.sublist (List.drop_sublist _ _)⟩,λx hx y hy=>?_⟩
  ·obtain⟨i,hi,e⟩:=QX hx;rw[List.getElem_drop]at e;rw[XI]at hi;have:=b3 (below t.place j+i) (by omega) (by omega);have ne:x≠j:=λz=>nj (z▸List.mem_of_mem_drop hx);omega
  obtain⟨i,hi,e⟩:=QX hx;rw[List.getElem_take]at e;rw[QM]at hi;have h1:=b2 i (by omega) (by omega);rcases Qk.mp hy with rfl|hy
  ·omega
  obtain⟨k,hk,e2⟩:=QX hy;rw[List.getElem_drop]at e2;rw[XI]at hk;have:=b3 (below t.place j+k) (by omega) (by omega);omega
 ·rcases(mem x).mp hx with rfl|hx
  ·exact hj
  exact b.bd x hx
 have up:∀x,x∈t.place.toList->x∈(t.put j).1.place.toList:=λx hx=>(mem x).mpr (.inr hx);rw[pl,List.zip_append (by rw[QM,QM];omega),List.zip_cons_cons,Qw,Qk]at hq
 have old:∀q,q∈(t.place.toList.take (below t.place j)).zip (hs.take (below t.place j))\/q∈(t.place.toList.drop (below t.place j)).zip (hs.drop (below t.place j))->q∈t.place.toList.zip hs:=λq hq=>by
  rw[<-List.take_append_drop (below t.place j) t.place.toList,<-List.take_append_drop (below t.place j) hs,List.zip_append (by rw[QM,QM];omega),Qw];simpa using hq
 rcases hq with hq|rfl|hq
 ·exact(b.rch q (old q (.inl hq))).mono up
 ·exact r.mono up
 exact(b.rch q (old q (.inr hq))).mono up
theorem mR (h:i<m+1):i<=runEnd m i/\runEnd m i<m+1:=by unfold runEnd;split <;> omega
theorem mw {p:Probe} (h:p.more>0):adv m p={ p with j:=p.j+1,more:=p.more-1 }:=Qs h
theorem rO {m:Nat} {L:Nat->Prop}:∀(k:Nat) (p:Probe),k<=p.more->(∀d,d<k->L (p.j+d))->Rch m L p (p.j+k)
 | 0,p,_,_=>.here p
 | k+1,p,h,a=>by
  refine .step (a 0 (by omega)) ?_;rw[mw (by omega),show p.j+(k+1)=p.j+1+k by omega];exact rO k { p with j:=p.j+1,more:=p.more-1 } (by show k<=p.more-1;omega) λd hd=>by have:=a (d+1) (by omega);rw[show p.j+(d+1)=p.j+1+d by omega]at this;exact this
theorem rP {m j:Nat} {L:Nat->Prop}:∀(k:Nat) (p:Probe),p.more=k->p.dummy=none->(∀d,d<=k->L (p.j+d))->Rch m L (beg m (lps m (p.i,p.perturb))) j->Rch m L p j
 | 0,p,h,hd,a,r=>by
  refine .step (a 0 (Qj _)) ?_;have:=km m 0 p h hd;rw[show itn (adv m) (0+1) p=adv m p from rfl]at this;rw[this];exact r
 | k+1,p,h,hd,a,r=>by
  refine .step (a 0 (QU _)) ?_;rw[mw (by omega)];exact rP k { p with j:=p.j+1,more:=p.more-1 } (by show p.more-1=k;omega) hd (λd hd=>by have:=a (d+1) (by omega);rw[show p.j+(d+1)=p.j+1+d by omega]at this;exact this) r
def Ln (m:Nat) (owner:Array (Option Nat)) (j:Nat):Prop:=j<m+1/\owner.getD j none≠none
theorem v4 {m e:Nat} {owner:Array (Option Nat)} (ho:owner.size=m+1) (he:e<m+1) (ee:owner.getD e none=none):∀(f i per:Nat),i<m+1->(∃n,n<f/\(itn (lps m) n (i,per)).1=e) ->
  ∃j,layClean.free m owner f i per=some j/\j<m+1/\owner.getD j none=none/\Rch m (Ln m owner) (beg m (i,per)) j
 | 0,i,per,hi,⟨n,hn,_⟩=>absurd hn (Nat.not_lt_zero _)
 | f+1,i,per,hi,⟨n,hn,en⟩=>by
  obtain⟨r1,r2⟩:=mR hi
  have gd:∀j,j<m+1->owner.getD j (some 0)=owner.getD j none:=λj hj=>by
   have:j<owner.size:=by omega
   simp[Array.getD,this]
  unfold layClean.free
  cases c:(List.range (runEnd m i+1-i)).find? λk=>(owner.getD (i+k) (some 0)).isNone with
  | some k =>
   obtain⟨h1,as,bs,h2,h3⟩:=List.find?_eq_some_iff_append.mp c;have hk:k∈List.range (runEnd m i+1-i):=List.mem_of_find?_eq_some c;rw[Xz]at hk;have kl:i+k<m+1:=by omega
   rw[gd _ kl]at h1;refine⟨i+k,rfl,kl,by simpa using h1,?_⟩;refine rO (m:=m) (L:=Ln m owner) k (beg m (i,per)) (by show k<=runEnd m i-i;omega) λd hd=>?_;have hd2:i+d<m+1:=by omega
   refine⟨hd2,λz=>?_⟩;have z:owner.getD (i+d) none=none:=z
   have mem:d∈as:=by
    have e1:d∈as++k::bs:=by rw[<-h2,Xz];omega
    rcases Qw.mp e1 with q|q
    ·exact q
    exfalso;have sr:(as++k::bs).Pairwise (·<·):=by rw[<-h2];exact List.pairwise_lt_range
    have:=(List.pairwise_cons.mp (List.pairwise_append.mp sr).2.1).1;rcases Qk.mp q with rfl|q
    ·omega
    have:=this d q;omega
   have:=h3 d mem;rw[gd _ hd2,z]at this;simp at this
  | none =>
  have all:∀d,d<=runEnd m i-i->Ln m owner (i+d):=λd hd=>by
   have hd2:i+d<m+1:=by omega
   refine⟨hd2,λz=>?_⟩;have:=List.find?_eq_none.mp c d (Xz.mpr (by omega));rw[gd _ hd2,z]at this;simp at this
  cases n with
  | zero=>exact absurd ee (by have:=all 0 (QU _);rw[show e=i+0 from en.symm];exact this.2)
  | succ n =>
  obtain⟨j,q1,q2,q3,q4⟩:=v4 ho he ee f (lps m (i,per)).1 (lps m (i,per)).2 (Nat.mod_lt _ (Nat.succ_pos _)) ⟨n,by omega,en⟩;exact⟨j,q1,q2,q3,rP _ (beg m (i,per)) rfl rfl all q4⟩
structure Lay (m:Nat) (owner:Array (Option Nat)) (js:List Nat) (hs:List Int):Prop where
 sz:owner.size=m+1
 len:js.length=hs.length
 nd:js.Nodup
 bd:∀j∈js,j<m+1
 own:∀j i,j<m+1->(owner.getD j none=some i↔js[i]?=some j)
 rch:∀q∈js.zip hs,Rch m (·∈js) (beg m (bits q.2 % (m+1),bits q.2)) q.1
theorem vg (h:Int):bits h<2 ^ 64:=by
 unfold bits;have h1:0<=h % (2 ^ 64:Int):=Int.emod_nonneg _ (by decide);have h2:h % (2 ^ 64:Int)<2 ^ 64:=Int.emod_lt_of_pos _ (by decide);omega
theorem Lay.more {owner:Array (Option Nat)} (hm:Msk m) (l:Lay m owner js hs) (h:Int) (fw:hs.length<m+1) :
  ∃j,layClean.free m owner (turns m) (bits h % (m+1)) (bits h)=some j/\Lay m (owner.setIfInBounds j (some hs.length)) (js++[j]) (hs++[h]):=by
 obtain⟨e,he,ne⟩:=pC l.nd (by rw[l.len];exact fw)
 have none_of:∀j,j<m+1->j∉js->owner.getD j none=none:=λj hj nj=>by
  cases c:owner.getD j none with
  | none=>rfl
  | some i=>exact absurd (Ql ((l.own j i hj).mp c)) nj
 obtain⟨n,hn,en⟩:=wb (x:=(bits h % (m+1),bits h)) hm (Nat.mod_lt _ (Nat.succ_pos _)) (vg h) he;obtain⟨j,f1,f2,f3,f4⟩:=v4 l.sz he (none_of e he ne) (turns m) (bits h % (m+1)) (bits h) (Nat.mod_lt _ (Nat.succ_pos _)) ⟨n,by unfold turns;omega,en⟩
 have mem_of:∀j,Ln m owner j->j∈js:=λj ⟨a,b⟩=>by
  cases c:owner.getD j none with
  | none=>exact absurd c b
  | some i=>exact Ql ((l.own j i a).mp c)
 have nj:j∉js:=λz=>by
  obtain⟨i,hi,e⟩:=QX z;rw[(l.own j i f2).mpr (by rw[Qd hi,e])]at f3;cases f3
 have up:∀x,x∈js->x∈js++[j]:=λx hx=>Q1 _ hx;refine⟨j,f1,by simp[l.sz],by simp[l.len],?_,λx hx=>?_,λx i hx=>?_,λq hq=>?_⟩
 ·exact List.nodup_append.mpr ⟨l.nd,by simp,λa ha b hb e=>nj (by simp at hb;rw[<-hb,<-e];exact ha)⟩
 ·rcases Qw.mp hx with hx|hx
  ·exact l.bd x hx
  simp at hx;rw[hx];exact f2
 ·have hj:j<owner.size:=by rw[l.sz];exact f2
  have gd:(owner.setIfInBounds j (some hs.length)).getD x none=if j=x then some hs.length else owner.getD x none:=by
   rw[QW,Array.getElem?_setIfInBounds];by_cases c:j=x
   ·subst c;simp[hj]
   rw[Qq c,Qq c,QW]
  rw[gd];by_cases c:j=x
  ·subst c;rw[Qs rfl]
   constructor
   ·intro z;cases z;rw[<-l.len,Xf (Qj _)];simp
   intro z;by_cases d:i<js.length
   ·rw[Xx d]at z;exact absurd (Ql z) nj
   have:=(Qf.mp z).1;rw[Qh,QL]at this;rw[show i=js.length by omega,l.len]
  rw[Qq c,l.own x i hx];by_cases d:i<js.length
  ·rw[Xx d]
  rw[Q8 (by omega),Xf (by omega)]
  constructor
  ·intro z;cases z
  intro z;have:=Ql z;simp at this;exact absurd this.symm c
 rw[List.zip_append l.len,Qw]at hq;rcases hq with hq|hq
 ·exact(l.rch q hq).mono up
 simp at hq;subst hq;exact(f4.mono mem_of).mono up
theorem lM {m:Nat} (hm:Msk m):∀(more hs:List Int) (owner:Array (Option Nat)) (js:List Nat),Lay m owner js hs->hs.length+more.length<=m+1 ->
  ∃owner' js',more.foldl (λ(acc:Option (Array (Option Nat) × Nat)) h=>do
   let (owner,k) <-acc;let j <-layClean.free m owner (turns m) (bits h % (m+1)) (bits h)
   pure (owner.setIfInBounds j (some k),k+1)) (some (owner,hs.length))=some (owner',(hs++more).length)/\Lay m owner' js' (hs++more)
 | [],hs,owner,js,l,_=>⟨owner,js,by simp,by simpa using l⟩
 | h::more,hs,owner,js,l,z=>by
  rw[Xh]at z;obtain⟨j,e,l'⟩:=l.more hm h (by omega);obtain⟨o',js',e2,l2⟩:=lM hm more (hs++[h]) _ _ l' (by simp;omega);refine⟨o',js',?_,by simpa using l2⟩;rw[List.foldl_cons]
  have st:(do
    let (owner,k) <-some (owner,hs.length);let j <-layClean.free m owner (turns m) (bits h % (m+1)) (bits h)
    pure (owner.setIfInBounds j (some k),k+1):Option (Array (Option Nat) × Nat))=some (owner.setIfInBounds j (some hs.length),(hs++[h]).length):=by
   show (layClean.free m owner (turns m) (bits h % (m+1)) (bits h)).bind _=_;rw[e];simp
  rw[st,e2];simp
theorem qE (hm:Msk m) (hs:Array Int) (fw:hs.size<=m+1):∃owner js,layClean m hs=some owner/\Lay m owner js hs.toList:=by
 have l0:Lay m (Array.replicate (m+1) none) [] []:=⟨by simp,rfl,List.nodup_nil,λj h=>(nomatch h),λj i hj=>by simp[Array.getD,hj],λq hq=>(nomatch hq)⟩;obtain⟨o,js,e,l⟩:=lM hm hs.toList [] _ _ l0 (by simpa using fw);refine⟨o,js,?_,by simpa using l⟩;unfold layClean;rw[<-Array.foldl_toList];have e':=congrArg (Option.map (·.1)) e;exact e'
theorem sR {α:Type} [DecidableEq α]:∀(as bs:List α),as.Nodup->(∀x∈as,x∈bs)->as.length<=bs.length
 | [],_,_,_=>QU _
 | a::as,bs,nd,h=>by
  have ha:=h a (by simp);have:=sR as (bs.erase a) (QS.mp nd).2 λx hx=>(List.mem_erase_of_ne λe:x=a=>(QS.mp nd).1 (e▸hx)).mpr (h x (Qu _ hx));rw[List.length_erase_of_mem ha]at this;have:=List.length_pos_of_mem ha;simp only[Xh];omega
theorem oX {α:Type} [DecidableEq α]:∀(as bs:List α),as.Nodup->(∀x∈as,x∈bs)->bs.length<=as.length->as.Perm bs
 | [],bs,_,_,h=>by
  obtain rfl:bs=[]:=List.length_eq_zero_iff.mp (by simpa using h);exact .nil
 | a::as,bs,nd,h,z=>by
  obtain⟨n1,n2⟩:=QS.mp nd;have ha:=h a (by simp);have q:=oX as (bs.erase a) n2 (λx hx=>(List.mem_erase_of_ne λ(e:x=a)=>n1 (e▸hx)).mpr (h x (Qu _ hx))) (by rw[List.length_erase_of_mem ha];simp at z;omega);exact(q.cons a).trans (List.perm_cons_erase ha).symm
theorem yc {α:Type} [DecidableEq α] {as bs:List α} (n1:as.Nodup) (n2:bs.Nodup) (h:∀x,x∈as↔x∈bs):as.Perm bs:=oX as bs n1 (λx=>(h x).mp) (sR bs as n2 λx=>(h x).mpr)
theorem yi {α:Type} (hm:Msk m) (es:Array (Int × α)) (fw:es.size<=m+1) (finger moves:Nat) (led plain:Bool):∃t order,laid m finger moves led plain (es.map (·.1))=some (t,order)/\t.mask=m/\t.led=led/\t.plain=plain /\
  (order.filterMap (es[·]?)).toList.Perm es.toList/\Tb t ((order.filterMap (es[·]?)).toList.map (·.1)):=by
 obtain⟨owner,js,e,l⟩:=qE hm (es.map (·.1)) (by simpa using fw);rw[Array.toList_map]at l;have ll:js.length=es.size:=by have:=l.len;rwa [Qc,Qg]at this
 let live:=(List.range (m+1)).filterMap λj=>(owner.getD j none).map (j,·)
 have mem:∀j i,(j,i)∈live↔j<m+1/\js[i]?=some j:=λj i=>by
  show (j,i)∈(List.range (m+1)).filterMap _↔_;rw[List.mem_filterMap]
  constructor
  ·rintro⟨x,hx,z⟩;obtain⟨y,hy,z⟩:=XD.mp z;cases z;have hx:=Xz.mp hx;exact⟨hx,(l.own j i hx).mp hy⟩
  rintro⟨h1,h2⟩;exact⟨j,Xz.mpr h1,by rw[(l.own j i h1).mpr h2];rfl⟩
 have f1:live.map (·.1)=(List.range (m+1)).filter λj=>(owner.getD j none).isSome:=by
  show ((List.range (m+1)).filterMap _).map _=_;generalize List.range (m+1)=r
  induction r with
  | nil=>rfl
  | cons x r ih =>
  cases c:owner.getD x none with
  | none=>rw[List.filterMap_cons_none (by rw[c];rfl),ih,List.filter_cons_of_neg (by rw[c];simp)]
  | some i=>rw[List.filterMap_cons_some (by rw[c];rfl),Qt,ih,List.filter_cons_of_pos (by rw[c];rfl)]
 have up:ko (live.map (·.1)):=by rw[f1];exact List.pairwise_lt_range.sublist List.filter_sublist
 have ms:∀j,j∈live.map (·.1)↔j∈js:=λj=>by
  rw[Qm]
  constructor
  ·rintro⟨⟨x,i⟩,h,rfl⟩;exact Ql ((mem x i).mp h).2
  intro h;obtain⟨i,hi,ei⟩:=QX h;exact⟨(j,i),(mem j i).mpr ⟨l.bd j h,by rw[Qd hi,ei]⟩,rfl⟩
 have inj:∀q∈live,∀r∈live,q.2=r.2->q=r:=λ⟨j,i⟩ hq ⟨j',i'⟩ hr z=>by
  cases z;have h1:=((mem j i).mp hq).2;have h2:=((mem j' i).mp hr).2;rw[h1]at h2;cases h2;rfl
 have ndl:live.Nodup:=by
  have:(live.map (·.1)).Nodup:=up.nodup;rw[List.nodup_iff_pairwise_ne,QN]at this;exact List.nodup_iff_pairwise_ne.mpr (this.imp λh z=>h (by rw[z]))
 have nd2:(live.map (·.2)).Nodup:=by
  rw[List.nodup_iff_pairwise_ne]at ndl ⊢;rw[QN];exact ndl.imp_of_mem λha hb ne z=>ne (inj _ ha _ hb z)
 have pr:(live.map (·.2)).Perm (List.range es.size):=yc nd2 List.nodup_range λi=>by
  rw[Qm,Xz]
  constructor
  ·rintro⟨⟨j,k⟩,h,rfl⟩;have:=(Qf.mp ((mem j k).mp h).2).1;show k<_;omega
  intro h;have hi:i<js.length:=by omega
  exact⟨(js[i],i),(mem _ _).mpr ⟨l.bd _ (Xi hi),Qd hi⟩,rfl⟩
 refine⟨{ mask:=m,place:=(live.map (·.1)).toArray,dummies:=#[],finger,led,moves,plain },(live.map (·.2)).toArray,?_,rfl,rfl,rfl,?_,?_⟩
 ·unfold laid;rw[e];rfl
 ·rw[Array.toList_filterMap];refine(pr.filterMap _).trans (.of_eq ?_);refine List.ext_getElem? λi=>?_
  have:∀n k,n<=es.size->((List.range n).filterMap (es[·]?))[k]?=if k<n then es[k]? else none:=by
   intro n
   induction n with
   | zero=>intro k _;simp
   | succ n ih =>
   intro k hn
   have ln:((List.range n).filterMap (es[·]?)).length=n:=by
    have h1:=ih n (by omega);rw[Qq (X6 _)]at h1;have h1:=List.getElem?_eq_none_iff.mp h1;by_cases c:n=0
    ·subst c;rfl
    have h2:=ih (n-1) (by omega);rw[Qs (by omega),QG (show n-1<es.size by omega)]at h2;have:=(Qf.mp h2).1;omega
   rw[List.range_succ,List.filterMap_append,List.filterMap_cons_some (QG (show n<es.size by omega)),List.filterMap_nil];by_cases c:k<n
   ·rw[Xx (by omega),ih k (by omega),Qs c,Qs (by omega)]
   rw[Xf (by omega),ln];by_cases d:k=n
   ·subst d;simp <;> omega
   rw[Qq (by omega),Q8 (by simp;omega)]
  rw[this _ _ (Qj _),QV]
  split
  ·rfl
  rename_i h;rw[Array.getElem?_eq_none (by omega)]
 have fm:((live.map (·.2)).toArray.filterMap (es[·]?)).toList.map (·.1)=live.map λq=>(es.toList.map (·.1)).getD q.2 0:=by
  rw[Array.toList_filterMap];show ((live.map (·.2)).filterMap (es[·]?)).map (·.1)=_
  have all:∀q∈live,q.2<es.size:=λ⟨j,k⟩ h=>by
   have:=(Qf.mp ((mem j k).mp h).2).1;show k<_;omega
  generalize live=lv at all
  induction lv with
  | nil=>rfl
  | cons q lv ih =>
  have hq:=all q (by simp);rw[Qt,List.filterMap_cons_some (QG hq),Qt,Qt,ih λr hr=>all r (Qu _ hr)];congr 1;rw[Qr,Qv,QV,QG hq];rfl
 rw[fm];refine⟨hm,rfl,by simp,by simpa using up,λj hj=>?_,λq hq=>?_⟩
 ·have hj:j∈live.map (·.1):=by simpa using hj
  exact l.bd j ((ms j).mp hj)
 have hq:q∈(live.map (·.1)).zip (live.map λq=>(es.toList.map (·.1)).getD q.2 0):=by simpa using hq
 rw[List.zip_map',Qm]at hq;obtain⟨⟨j,i⟩,h1,rfl⟩:=hq;obtain⟨h2,h3⟩:=(mem j i).mp h1;have hi:=(Qf.mp h3).1
 have z:(j,(es.toList.map (·.1)).getD i 0)∈js.zip (es.toList.map (·.1)):=by
  have hz:i<(es.toList.map (·.1)).length:=by rw[<-l.len];exact hi
  refine Ql (i:=i) ?_;rw[Xy];exact⟨h3,by rw[Qr,Qd hz];rfl⟩
 refine(l.rch _ z).mono λx hx=>?_;have:=(ms x).mpr hx;simpa using this
end Ht
namespace Ht
open PySem PySem.Spec PyProof.Rows L2 PySem.SetTable
section
variable {prog:Program} {w:World} {A:Around} {E:A0} {s:Shared}
theorem jg {α:Type} {P:α->Prop} {Q:Option Bool × PUnit->Shared->Prop} {f:α->Option Bool × PUnit->Sem (ForInStep (Option Bool × PUnit))} (l:List α) (hl:∀x∈l,P x)
  (hf:∀x,P x->∀(R:ForInStep (Option Bool × PUnit)->Shared->Prop),R (.yield (none,⟨⟩)) s->wpAny (model prog w) A (f x (none,⟨⟩)) R E s) (h:Q (none,⟨⟩) s):wpAny (model prog w) A (forIn l (none,⟨⟩) f) Q E s:=by
 refine wpAny_forIn_list _ (λrest r s'=>r=(none,⟨⟩)/\s'=s/\∀x∈rest,P x) _ ?_ ?_ _ _ ⟨rfl,rfl,hl⟩
 ·rintro x rest r s' ⟨rfl,rfl,a⟩;exact hf x (a x (by simp)) _ ⟨rfl,rfl,λy hy=>a y (Qu _ hy)⟩
 rintro r s' ⟨rfl,rfl,_⟩;exact h
variable {v:Value}
theorem uV {k:Key} (h:(az prog w).is k v=true):(∃i t,v=.int i t)\/∃x t,v=.str x t:=by
 rcases aN (show dv k v=true from h) with⟨i,t,_,e⟩|⟨x,t,_,e⟩
 ·exact .inl ⟨i,t,e⟩
 exact .inr ⟨x,t,e⟩
variable {vs:List Value}
theorem uZ {ks:List Key} (h:ItemsAre (az prog w) ks vs):∀v∈vs,∃k,(az prog w).is k v=true:=by
 induction h with
 | nil=>intro v hv;cases hv
 | cons q _ ih =>
 intro v hv;rcases Qk.mp hv with rfl|hv
 ·exact⟨_,q⟩
 exact ih v hv
theorem tz {h:Heap} {ks:ax} (x:TK.Its (az prog w) h ks vs):∀v∈vs,∃k,TK.It (az prog w) h k v:=by
 induction x with
 | nil=>intro v hv;cases hv
 | cons q _ ih =>
 intro v hv;rcases Qk.mp hv with rfl|hv
 ·exact⟨_,q⟩
 exact ih v hv
variable {Q:Bool->Shared->Prop}
theorem i3 {k:Key} {d:Nat} (hk:(az prog w).is k v=true) (h:Q false s):wpAny (model prog w) A (ofAClassStatement d v) Q E s:=by
 rcases uV hk with⟨i,t,rfl⟩|⟨x,t,rfl⟩ <;> (unfold ofAClassStatement;exact Qe h)
variable {b:Addr}
theorem i7 {o:Obj} {its:Array Value} {n d:Nat} {P:Value->Prop} (ho:s.heap.get? b=some o) (hc:o.cls=.type "tuple") (hd:o.data=.seq its n) (hp:∀v∈its.toList,P v)
  (hf:∀v,P v->∀(R:Bool->Shared->Prop),R false s->wpAny (model prog w) A (ofAClassStatement d v) R E s) (h:Q false s):wpAny (model prog w) A (ofAClassStatement (d+1) (.ref b)) Q E s:=by
 unfold ofAClassStatement;refine Qa (wpAny_typeOf (T := "tuple") ⟨o,ho,hc⟩ ?_);dsimp only;rw[Qs (by decide)];refine Qa (Qe ?_);rw[Qq (by decide)];unfold seqItems?;refine Qa (Qa (wpAny_load ho ?_));rw[hd];refine Qe ?_;dsimp only;refine Qa ?_;rw[<-Array.forIn_toList];refine jg its.toList hp (λv hv R hR=>Qa (hf v hv _ ?_)) ?_
 ·rw[Qq Qp];exact Qe hR
 exact Qe h
theorem oV {k:ax} (hk:TK.IsT (az prog w) s.heap k b) (h:Q false s):wpAny (model prog w) A (ofAClassStatement 8 (.ref b)) Q E s:=by
 obtain⟨o,its,n,h1,h2,h3,h4⟩:=hk;refine i7 (d:=7) h1 h2 h3 (tz h4) (λv ⟨k,hv⟩ R hR=>?_) h
 cases k with
 | inl k=>exact i3 hv hR
 | inr ks =>
 obtain⟨c,rfl,o,its,n,h1,h2,h3,h4⟩:=hv;exact i7 (d:=6) h1 h2 h3 (uZ h4) (λv ⟨k,hv⟩ R hR=>i3 hv hR) hR
def xx:Key->Bool
 | .inl _=>true
 | .inr _=>false
def byV2:Key ⊕ List Key->Bool
 | .inl k=>xx k
 | .inr ks=>ks.all xx
theorem wc {k:Key} {d:Nat} (hk:(az prog w).is k v=true) (h:Q (xx k) s):wpAny (model prog w) A (hashByValue d v) Q E s:=by
 rcases aN (show dv k v=true from hk) with⟨i,t,rfl,rfl⟩|⟨x,t,rfl,rfl⟩ <;> (unfold hashByValue;exact Qe h)
theorem we {α:Type} {o:Obj} {its:Array Value} {n d:Nat} {P:α->Value->Prop} {g:α->Bool} {xs:List α} (ho:s.heap.get? b=some o) (hc:o.cls=.type "tuple") (hd:o.data=.seq its n) (hp:Paired P xs its.toList)
  (hf:∀x v,P x v->∀(R:Bool->Shared->Prop),R (g x) s->wpAny (model prog w) A (hashByValue d v) R E s) (h:Q (xs.all g) s):wpAny (model prog w) A (hashByValue (d+1) (.ref b)) Q E s:=by
 unfold hashByValue;refine Qa (wpAny_specialOf (T := "tuple") ⟨o,ho,hc⟩ F.slot_tuple_hash.lookup ?_);dsimp only;unfold seqItems?;refine Qa (Qa (wpAny_load ho ?_));rw[hd];refine Qe ?_;refine Qa ?_;rw[Option.getD_some,<-Array.forIn_toList];refine wpAny_forIn_list _ (λrest r s'=>r.1=none/\s'=s/\∃ys,Paired P ys rest/\xs.all g=ys.all g) _ ?_ ?_ _ _ ⟨rfl,rfl,xs,hp,rfl⟩
 ·rintro x rest r s' ⟨_,rfl,ys,a,e⟩
  cases a with
  | @cons y _ ys _ q t =>
  refine Qa (hf y x q _ ?_);rw[List.all_cons]at e
  cases c:g y with
  | true=>rw[c,Bool.true_and]at e;exact Qe ⟨rfl,rfl,ys,t,e⟩
  | false=>rw[c,Bool.false_and]at e;rw[e]at h;exact Qe (Qe h)
 rintro⟨r1,r2⟩ s' ⟨hr,rfl,ys,a,e⟩;dsimp only at hr;subst hr;cases a;rw[e]at h;exact Qe h
theorem xj {ks:List Key} (h:ItemsAre (az prog w) ks vs):Paired (λk v=>(az prog w).is k v=true) ks vs:=by
 induction h with
 | nil=>exact .nil
 | cons q _ ih=>exact .cons q ih
theorem uY {h:Heap} {ks:ax} (x:TK.Its (az prog w) h ks vs):Paired (TK.It (az prog w) h) ks vs:=by
 induction x with
 | nil=>exact .nil
 | cons q _ ih=>exact .cons q ih
theorem byv {k:ax} (hk:TK.IsT (az prog w) s.heap k b) (h:Q (k.all byV2) s):wpAny (model prog w) A (hashByValue 8 (.ref b)) Q E s:=by
 obtain⟨o,its,n,h1,h2,h3,h4⟩:=hk;refine we (d:=7) h1 h2 h3 (uY h4) (λk v hv R hR=>?_) h
 cases k with
 | inl k=>exact wc hv hR
 | inr ks =>
 obtain⟨c,rfl,o,its,n,h1,h2,h3,h4⟩:=hv;exact we (d:=6) h1 h2 h3 (xj h4) (λk v hv R hR=>wc hv hR) hR
end
theorem v3 {t:SetTable} {hs:List Int} {f:Nat->Int} {h:Int} (b:Tb t hs):∀(n:Nat) (p:Probe) (fu:Nat),Emp t.mask (·∈t.place.toList) n p->n<fu->p.dummy=none ->
  (probe.go t f h fu p=some (.empty (itn (adv t.mask) n p).j none)/\∀d,d<n->∀i,t.place.toList[i]?=some (itn (adv t.mask) d p).j->f i≠h) \/
  ∃d i,d<n/\t.place.toList[i]?=some (itn (adv t.mask) d p).j/\f i=h/\probe.go t f h fu p=some (.candidate (itn (adv t.mask) d p).j i (itn (adv t.mask) (d+1) p))/\Emp t.mask (·∈t.place.toList) (n-(d+1)) (itn (adv t.mask) (d+1) p) /\
   (itn (adv t.mask) (d+1) p).dummy=none/\∀d',d'<d->∀i',t.place.toList[i']?=some (itn (adv t.mask) d' p).j->f i'≠h
 | 0,p,fu+1,e,_,hd=>by
  refine .inl ⟨?_,λd hd=>absurd hd (Nat.not_lt_zero _)⟩;unfold probe.go;rw[mN b.dum e];show some (Met.empty p.j p.dummy)=_;rw[hd];rfl
 | n+1,p,fu+1,e,hn,hd=>by
  obtain⟨i,hi,ei⟩:=QX e.1;have ei:t.place.toList[i]?=some p.j:=by rw[Qd hi,ei]
  have hd':(adv t.mask p).dummy=none:=by unfold adv;split <;> exact hd
  by_cases c:f i=h
  ·refine .inr ⟨0,i,by omega,ei,c,?_,e.2,hd',λd' hd=>absurd hd (Nat.not_lt_zero _)⟩;unfold probe.go;rw[fB b.up ei];dsimp only;rw[Qs (by simpa using c)];rfl
  have st:probe.go t f h (fu+1) p=probe.go t f h fu (adv t.mask p):=by
   conv=>lhs;unfold probe.go
   rw[fB b.up ei];dsimp only;rw[Qq (by simpa using c)];rfl
  have one:∀i',t.place.toList[i']?=some p.j->i'=i:=λi' z=>by
   have:=(List.getElem?_inj hi b.up.nodup).mp (ei.trans z.symm);exact this.symm
  rcases v3 b n (adv t.mask p) fu e.2 (by omega) hd' with⟨g1,g2⟩|⟨d,i2,g1,g2,g3,g4,g5,g6,g7⟩
  ·refine .inl ⟨by rw[st];exact g1,λd hd=>?_⟩
   cases d with
   | zero=>intro i' z;rw[one i' z];exact c
   | succ d=>exact g2 d (by omega)
  refine .inr ⟨d+1,i2,by omega,g2,g3,by rw[st];exact g4,by rw[show n+1-(d+1+1)=n-(d+1) by omega];exact g5,g6,λd' hd=>?_⟩
  cases d' with
  | zero=>intro i' z;rw[one i' z];exact c
  | succ d'=>exact g7 d' (by omega)
section
variable {prog:Program} {w:World}
def El (prog:Program) (w:World) (B:Addr->Prop) (h:Heap) (e:Int × Value) (k:ax):Prop:=∃b,e.2=.ref b/\TK.IsT (az prog w) h k b/\e.1=(bg prog w).hash k/\B b
abbrev ur (es:Array (Int × Value)) (ep:Nat) (t:SetTable):Obj:={ cls:=.type "set", data:=.set es ep t }
theorem El.at {B:Addr->Prop} {h h':Heap} {a:Addr} {o:Obj} {e:Int × Value} {k:ax} (x:El prog w B h e k) (ho:h.get? a=some o) (hc:o.cls≠.type "tuple") (sb:∀b o,b≠a->h.get? b=some o->h'.get? b=some o):El prog w B h' e k:=by
 obtain⟨b,e1,e2,e3⟩:=x;exact⟨b,e1,Tm.bY e2 λc oc hc' hcl=>sb c oc (λz=>by rw[z,ho]at hc';cases hc';exact hc hcl) hc',e3⟩
theorem fq {B:Addr->Prop} {h:Heap}:∀{es:List (Int × Value)} {ks:List ax} {i:Nat},Paired (El prog w B h) es ks->∀{e},es[i]?=some e->∃k,ks[i]?=some k/\El prog w B h e k
 | _,_,_,.nil,_,e=>by simp at e
 | _,_,0,.cons r _,_,e=>by simp at e;subst e;exact⟨_,rfl,r⟩
 | _,_,i+1,.cons _ t,_,e=>by obtain⟨k,h1,h2⟩:=fq (i:=i) t (by simpa using e);exact⟨k,by simpa using h1,h2⟩
variable {A:Around} {E:A0} {s:Shared} {a b:Addr} {es:Array (Int × Value)} {ep:Nat} {t:SetTable} {ks:List ax} {kx:ax}
theorem wj {l:List Value} {Q:Bool->Shared->Prop} (hx:TK.IsT (az prog w) s.heap kx b) (hl:∀v∈l,∃c k,v=.ref c/\TK.IsT (az prog w) s.heap k c) (h:Q false s):wpAny (model prog w) A (searchCouldBeSeen (.ref b) l) Q E s:=by
 unfold searchCouldBeSeen;refine Qa (jg l hl (λv ⟨c,k,e,hv⟩ R hR=>?_) (Qe h));subst e;dsimp only;refine wpAny_ite_split (λ_=>Qe hR) λ_=>?_;refine Qa (TK.t_quiet hx ?_);rw[Qq (by simp)];refine Qa (TK.t_quiet hv ?_);rw[Qq (by simp)];refine Qa (oV hx ?_);rw[Qq Qp];refine Qa (oV hv ?_);rw[Qq Qp];exact Qe hR
end
section
variable {prog:Program} {w:World} {A:Around} {E:A0} {s:Shared} {a b:Addr} {es:Array (Int × Value)} {ep:Nat} {t:SetTable} {ks:List ax} {kx:ax} {B:Addr->Prop}
theorem uO {m:Nat} (h:Msk m):m % 2=1:=by rcases h with rfl|rfl|rfl <;> rfl
theorem wA (hu:A.units+1<cLine) (ho:s.heap.get? a=some (ur es ep t)) (b0:Tb t (es.toList.map (·.1))) (fw:es.size<=t.mask) (el:Paired (El prog w B s.heap) es.toList ks) (hx:TK.IsT (az prog w) s.heap kx b) {Q:SetFound->Shared->Prop} :
  ∀(n:Nat) (p:Probe) (fu:Nat) (st:Option Probe),st.getD (t.probeStart ((bg prog w).hash kx))=p->Emp t.mask (·∈t.place.toList) n p->n<fu->n<10*turns t.mask->p.dummy=none ->
   ((∃d i:Nat,d<n/\t.place.toList[i]?=some (itn (adv t.mask) d p).j/\ks[i]?=some kx)/\Q (.there none) s\/kx∉ks/\Q (.free (itn (adv t.mask) n p).j false) s) ->
   wpAny (model prog w) A (setSearchFrom a (.ref b) ((bg prog w).hash kx) true fu st) Q E s:=by
 have hf:t.fits es.size=true:=by have:=b0.fits (by rw[Qc,Qg];exact fw);rwa [Qc,Qg]at this
 have pz:t.place.toList.length=es.toList.length:=by rw[b0.len,Qc]
 have gw:t.gaveWay=false:=by have:=uO b0.msk;simp[gaveWay,this]
 intro n
 induction n using Nat.strongRecOn with
 | _ n ih =>
 intro p fu st est e hn hn2 hd q;obtain⟨fu,rfl⟩:∃f,fu=f+1:=⟨fu-1,by omega⟩;unfold setSearchFrom;refine Qa (Xr ho rfl hf ?_);dsimp only;rw[gw,est];rw[Qq Qp];have go:=v3 (f:=λi=>(es[i]?.map (·.1)).getD 0) (h:=(bg prog w).hash kx) b0 n p (10*turns t.mask) e hn2 hd
 have at_:∀(i:Nat) (k:ax),ks[i]?=some k->∃(e:Int × Value) (c:Addr),es[i]?=some e/\e.2=.ref c/\TK.IsT (az prog w) s.heap k c/\(es[i]?.map (·.1)).getD 0=(bg prog w).hash k:=λi k hk=>by
  have hi:i<es.toList.length:=by rw[Xo el];exact(Qf.mp hk).1
  obtain⟨k',h1,c,h2,h3,h4⟩:=fq el (Qd hi);rw[hk]at h1;cases h1;rw[Qg]at hi;exact⟨es[i],c,QG hi,h2,h3,by rw[QG hi];exact h4.1⟩
 split
 ·rename_i met hmet
  have hmet:probe.go t (λi=>(es[i]?.map (·.1)).getD 0) ((bg prog w).hash kx) (10*turns t.mask) p=some met:=hmet;rcases go with⟨g1,g2⟩|⟨d,i,g1,g2,g3,g4,g5,g6,g7⟩
  ·rw[g1]at hmet;cases hmet;rcases q with⟨⟨d,i,h1,h2,h3⟩,_⟩|⟨_,q⟩
   ·obtain⟨_,_,_,_,_,z⟩:=at_ i kx h3;exact absurd z (g2 d h1 i h2)
   exact Qe q
  rw[g4]at hmet;cases hmet;have hi:i<es.size:=by have:=(Qf.mp g2).1;rw[<-Qg];omega
  obtain⟨k,hk,c,hc,hic,hh⟩:=fq el (i:=i) (e:=es[i]) (by rw[QV];exact QG hi)
  have all:∀v∈List.map (λx:Int × Value=>x.2) (Array.filter (λx=>x.1==(bg prog w).hash kx) es).toList,∃c k,v=.ref c/\TK.IsT (az prog w) s.heap k c:=λv hv=>by
   obtain⟨e,he,rfl⟩:=Qm.mp hv;rw[Array.toList_filter]at he;obtain⟨j,hj⟩:=List.getElem?_of_mem (Q2.mp he).1;obtain⟨k,_,c,h1,h2,_⟩:=fq el hj;exact⟨c,k,h1,h2⟩
  have same:t.sameMemory t.moves t.mask=some true:=by simp[sameMemory]
  refine wpAny_ite_split (λ_=>Qa (wj hx all ?_)) (λ_=>?_)
  all_goals try rw[Qq Qp]
  all_goals
   rw[QG hi];have ee:es[i]=(es[i].1,.ref c):=by rw[<-hc]
   rw[ee];dsimp only;refine Qa (QT (TK.t_eq (jJ prog w) hu hic hx ?_));refine Qa (Xr ho rfl hf ?_);dsimp only;by_cases ck:k=kx
   ·subst ck;rw[QA rfl,Qs (show (true&&true)=true from rfl)];rcases q with⟨_,q⟩|⟨q,_⟩
    ·exact Qe q
    exact absurd (Ql hk) q
   rw[Qy ck,Qq (by simp),same];dsimp only;rw[Qs rfl,fB b0.up g2];dsimp only;rw[QG hi,ee];dsimp only;refine Qa (wpAny_isSame_ref_self (Qa (Qe ?_)));rw[Qs rfl];dsimp only;rw[Qq Qp];refine ih (n-(d+1)) (by omega) (itn (adv t.mask) (d+1) p) fu (some (itn (adv t.mask) (d+1) p)) rfl g5 (by omega) (by omega) g6 ?_;rcases q with⟨⟨d2,i2,h1,h2,h3⟩,q⟩|⟨q1,q2⟩
   ·refine .inl ⟨⟨d2-(d+1),i2,?_,?_,h3⟩,q⟩
    all_goals
     have:d<d2:=by
      rcases Nat.lt_trichotomy d2 d with z|z|z
      ·obtain⟨_,_,_,_,_,y⟩:=at_ i2 kx h3;exact absurd y (g7 d2 z i2 h2)
      ·subst z;have hi2:i2<t.place.toList.length:=(Qf.mp h2).1;have:=(List.getElem?_inj hi2 b0.up.nodup).mp (h2.trans g2.symm);subst this;rw[hk]at h3;exact absurd (QH h3) ck
      exact z
    ·omega
    rw[<-db,show d+1+(d2-(d+1))=d2 by omega];exact h2
   refine .inr ⟨q1,?_⟩;rw[<-db,show d+1+(n-(d+1))=n by omega];exact q2
 rename_i hmet
 have hmet:probe.go t (λi=>(es[i]?.map (·.1)).getD 0) ((bg prog w).hash kx) (10*turns t.mask) p=none:=by
  cases c:probe.go t (λi=>(es[i]?.map (·.1)).getD 0) ((bg prog w).hash kx) (10*turns t.mask) p with
  | none=>rfl
  | some m=>exact absurd c (hmet m)
 rcases go with⟨g1,_⟩|⟨d,i,_,_,_,g4,_⟩
 ·rw[g1]at hmet;cases hmet
 rw[g4]at hmet;cases hmet
end
theorem xO {m n j:Nat} {L:Nat->Prop} {p:Probe} (r:Rch m L p j) (hj:L j) (e:Emp m L n p):∃d,d<n/\(itn (adv m) d p).j=j:=by
 induction r generalizing n with
 | here p =>
  cases n with
  | zero=>exact absurd hj e
  | succ n=>exact⟨0,by omega,rfl⟩
 | step a _ ih =>
 cases n with
 | zero=>exact absurd a e
 | succ n=>obtain⟨d,h1,h2⟩:=ih hj e.2;exact⟨d+1,by omega,h2⟩
theorem t8 {m:Nat}:∀(n:Nat) (p:Probe),p.j+p.more<m+1->(itn (adv m) n p).j<m+1
 | 0,p,h=>by show p.j<_;omega
 | n+1,p,h=>by
  refine t8 n (adv m p) ?_;unfold adv
  split
  ·show p.j+1+(p.more-1)<_;omega
  have l:(leap m p.i p.perturb).1<m+1:=Nat.mod_lt _ (Nat.succ_pos _);have:=mR l;show (leap m p.i p.perturb).1+(runEnd m (leap m p.i p.perturb).1-(leap m p.i p.perturb).1)<_;omega
theorem paired_perm {α β:Type} {R:α->β->Prop} {as as':List α} (p:as'.Perm as):∀{bs:List β},Paired R as bs->∃bs',Paired R as' bs'/\bs'.Perm bs:=by
 induction p with
 | nil=>intro bs h;exact⟨bs,h,.refl _⟩
 | cons x _ ih=>intro bs h;cases h with
  | cons q t=>obtain⟨bs',h1,h2⟩:=ih t;exact⟨_::bs',.cons q h1,h2.cons _⟩
 | swap x y l=>intro bs h;cases h with
  | cons q t=>cases t with
   | cons q2 t2=>exact⟨_::_::_,.cons q2 (.cons q t2),.swap _ _ _⟩
 | trans _ _ ih1 ih2=>intro bs h;obtain⟨b2,h1,h2⟩:=ih2 h;obtain⟨b3,h3,h4⟩:=ih1 h1;exact⟨b3,h3,h4.trans h2⟩
theorem gQ {α β:Type} {R:α->β->Prop} {x:α} {y:β} (q:R x y):∀(p:Nat) {as:List α} {bs:List β},Paired R as bs->Paired R (as.take p++x::as.drop p) (bs.take p++y::bs.drop p)
 | 0,_,_,h=>by simpa using Paired.cons q h
 | p+1,_,_,.nil=>.cons q .nil
 | p+1,_,_,.cons r t=>.cons r (gQ q p t)
section
variable {prog:Program} {w:World}
def SetK (prog:Program) (w:World) (B:Addr->Prop) (h:Heap) (a:Addr) (ks:List ax):Prop:=∃(es:Array (Int × Value)) (ep:Nat) (t:SetTable) (ks':List ax),h.get? a=some (ur es ep t)/\Paired (El prog w B h) es.toList ks'/\ks'.Perm ks/\ks.Nodup/\Tb t (es.toList.map (·.1))/\es.size*5<t.mask*3/\LS.Led w t es.size
variable {A:Around} {E:A0} {s:Shared} {a b:Addr} {ks:List ax} {k:ax} {B:Addr->Prop}
theorem SetK.new {h:Heap} (g:h.get? a=some (LS.bare !(w.params.followText "set-order"))):SetK prog w B h a [] :=
 ⟨#[],0,_,[],g,.nil,.refl _,List.nodup_nil,⟨.inl rfl,rfl,rfl,List.Pairwise.nil,fun j h=>(nomatch h),fun q h=>(nomatch h)⟩,show 0*5<7*3 by decide,by
  unfold LS.Led
  cases e:w.params.followText "set-order" with
  | true=>exact .inl rfl
  | false=>exact .inr ⟨rfl,λz=>absurd rfl z⟩⟩
theorem yB {Q:Bool->Shared->Prop} (hu:A.units+1<cLine) (S:SetK prog w B s.heap a ks) (hk:TK.IsT (az prog w) s.heap k b) (tx:k.all byV2=false) (hB:B b) (fw:ks.length<76)
  (h:∀h' c ks2,Heap.SameBut a s.heap h'->SetK prog w B h' a ks2->ks2.length<=ks.length+1->(∀x,x∈ks2↔x∈ks\/x=k)->Q c { s with heap:=h' }):wpAny (model prog w) A (setAddHashed a (.ref b) ((bg prog w).hash k)) Q E s:=by
 obtain⟨es,ep,t,ks',ho,el,pk,nd,b0,fe,ld⟩:=S;have lk:es.size=ks.length:=by rw[<-Qg,Xo el,pk.length_eq]
 have m7:7<=t.mask:=by rcases b0.msk with e|e|e <;> omega
 have fl:es.size<=t.mask:=by omega
 have hf:t.fits es.size=true:=by have:=b0.fits (by rw[Qc,Qg];exact fl);rwa [Qc,Qg]at this
 have pz:t.place.toList.length=es.toList.length:=by rw[b0.len,Qc]
 obtain⟨e0,he0,ne0⟩:=pC (m:=t.mask) b0.up.nodup (by rw[pz,Qg];omega);obtain⟨n,hn,em⟩:=qS (L:=(·∈t.place.toList)) b0.msk ((bg prog w).hash k) he0 ne0;have t127:t.mask<=127:=by rcases b0.msk with e|e|e <;> omega
 unfold setAddHashed setAddHashedIn;refine QT (Qa (Xr ho rfl hf ?_));dsimp only;rw[Qq (show ¬(byScan (.ref b) es=true) by simp[byScan,Value.scannable])];unfold setSearch;refine Qa (wA hu ho b0 fl el hk n (beg t.mask (bits ((bg prog w).hash k) % (t.mask+1),bits ((bg prog w).hash k))) 100000 none rfl em (by unfold turns at hn;omega) hn rfl ?_);by_cases c:k∈ks
 ·refine .inl ⟨?_,Qe (h s.heap false ks (Heap.SameBut.refl a s.heap) ⟨es,ep,t,ks',ho,el,pk,nd,b0,fe,ld⟩ (XX _) λx=>⟨.inl,λz=>z.elim id λe=>e▸c⟩)⟩;obtain⟨i,hi,ei⟩:=QX (pk.mem_iff.mpr c);have ei:ks'[i]?=some k:=by rw[Qd hi,ei]
  have hi2:i<es.toList.length:=by rw[Xo el];exact hi
  have hi3:i<t.place.toList.length:=by omega
  obtain⟨k2,h1,_,_,_,h4,_⟩:=fq el (Qd hi2);rw[ei]at h1;cases h1
  have r:=b0.rch (t.place.toList[i],es.toList[i].1) (Ql (i:=i) (by
   rw[Xy]
   exact⟨Qd hi3,by rw[Qv,Qd hi2];rfl⟩))
  dsimp only at r;rw[h4]at r;obtain⟨d,d1,d2⟩:=xO r (Xi hi3) em;exact⟨d,i,d1,by rw[rE]at d2;rw[Qd hi3];exact congrArg some d2.symm,ei⟩
 refine .inr ⟨λz=>c (pk.mem_iff.mp z),?_⟩;obtain⟨r,nl⟩:=em.rch
 have jb:(itn (adv t.mask) n (beg t.mask (bits ((bg prog w).hash k) % (t.mask+1),bits ((bg prog w).hash k)))).j<t.mask+1:=t8 n _ (by
  have l:bits ((bg prog w).hash k) % (t.mask+1)<t.mask+1:=Nat.mod_lt _ (Nat.succ_pos _);have:=mR l;show bits ((bg prog w).hash k) % (t.mask+1)+(runEnd t.mask (bits ((bg prog w).hash k) % (t.mask+1))-bits ((bg prog w).hash k) % (t.mask+1))<_
  omega)
 generalize (itn (adv t.mask) n (beg t.mask (bits ((bg prog w).hash k) % (t.mask+1),bits ((bg prog w).hash k)))).j=j at *;dsimp only;refine Qa (Xr ho rfl hf ?_);dsimp only;obtain⟨p,ep',p1,p2,p3,p4,b1⟩:=b0.put jb nl r;rw[<-ep'];generalize (t.put j).1=t1 at *;have lp:es.size=(es.toList.map (·.1)).length:=by simp
 rw[<-lp]at p1;have il:=lQ es p ((bg prog w).hash k,Value.ref b) p1;generalize insertAt es p ((bg prog w).hash k,Value.ref b)=es1 at *;have ih1:es1.toList.map (·.1)=(es.toList.map (·.1)).take p++(bg prog w).hash k::(es.toList.map (·.1)).drop p:=by rw[il,QI,Qt,List.map_take,List.map_drop]
 rw[<-ih1]at b1;have z1:es1.size=es.size+1:=by rw[<-Qg,il];simp only[Qh,Xh,QM,XI,Qg];omega
 have el1:Paired (El prog w B s.heap) es1.toList (ks'.take p++k::ks'.drop p):=by rw[il];exact gQ ⟨b,rfl,hk,rfl,hB⟩ p el
 have pk1:(ks'.take p++k::ks'.drop p).Perm (ks++[k]):=by
  refine List.perm_middle.trans ?_;rw[List.take_append_drop];exact(pk.cons k).trans (List.perm_append_singleton k ks).symm
 have nd1:(ks++[k]).Nodup:=List.nodup_append.mpr ⟨nd,by simp,λx hx y hy e=>c (by simp at hy;rw[<-hy,<-e];exact hx)⟩;have mm:∀x,x∈ks++[k]↔x∈ks\/x=k:=λx=>by simp
 have fin:∀t2:SetTable,t2.mask=t.mask->Tb t2 (es1.toList.map (·.1))->LS.Led w t2 es1.size ->
   wpAny (model prog w) A (storeSet a es1 t2 >>= λ_=>if (!false&&t2.tooFull)=true then setRelay a (grown (es.size+1)) >>= λ_=>pure true else pure true) Q E s:=λt2 em b2 ld2=>by
  have fill2:t2.fill=es1.size:=by unfold SetTable.fill;have:=b2.len;rw[Qg,Qc,Qg]at this;rw[this,b2.dum];rfl
  refine Qa (wpAny_storeSet_of ho rfl ?_ (by rw[XY];omega));have g1:(s.heap.update a (Obj.putSet es1 t2)).get? a=some (ur es1 (ep+1) t2):=Xj (Obj.putSet es1 t2) ho rfl;have sb1:=Q5 s.heap a (Obj.putSet es1 t2);have elA:∀{h':Heap} {l:List (Int × Value)} {ks3:List ax},Heap.SameBut a s.heap h'->Paired (El prog w B s.heap) l ks3->Paired (El prog w B h') l ks3:=λsb x=>Paired.mapT x λe k q=>q.at ho (λz=>absurd (Value.type.inj z) (by decide)) λb o hb e=>(sb.2 b hb).trans e;by_cases tf:t2.tooFull=true
  ·rw[tf,Qs (show (!false&&true)=true from rfl)];unfold tooFull at tf;rw[fill2,em]at tf;have tf:t.mask*3<=es1.size*5:=XQ tf
   obtain⟨m',hm',es',fw'⟩:∃m',Msk m'/\sizeAbove (grown (es.size+1))=m'+1/\es1.size*5<m'*3:=by
    rcases b0.msk with e|e|e
    ·have:es.size=4:=by omega
     rw[this];exact⟨31,.inr (.inl rfl),by decide +kernel,by omega⟩
    ·have:es.size=18:=by omega
     rw[this];exact⟨127,.inr (.inr rfl),by decide +kernel,by omega⟩
    omega
   have hf2:t2.fits es1.size=true:=by have:=b2.fits (by rw[Qc,Qg];omega);rwa [Qc,Qg]at this
   obtain⟨t3,order,l1,l2,l3,l4,l5,l6⟩:=yi hm' es1 (by omega) t2.finger (t2.movedTo m') t2.led t2.plain
   have rl:t2.relaid (es1.map (·.1)) (grown (es.size+1))=some (t3,order):=by
    unfold relaid;rw[es',Nat.add_sub_cancel];exact l1
   have z3:(order.filterMap (es1[·]?)).size=es1.size:=by rw[<-Qg,l5.length_eq,Qg]
   unfold setRelay;refine Qa (Qa (Xr (s:={ s with heap:=s.heap.update a (Obj.putSet es1 t2) }) g1 rfl hf2 ?_));dsimp only;have m127:m'<=127:=by rcases hm' with e|e|e <;> omega
   rw[Qq (show ¬sizeAbove (grown (es.size+1))>sizeLine by rw[es',XY];omega),rl];have nz:((order.filterMap (es1[·]?)).size != es1.size)=false:=by rw[z3];simp
   generalize hS:storeSet=ST
   wp_walk
   subst hS;dsimp only;refine wpAny_storeSet_of (s:={ s with heap:=s.heap.update a (Obj.putSet es1 t2) }) g1 rfl ?_ (by rw[z3,XY];omega);obtain⟨ks4,e4,p4'⟩:=paired_perm l5 el1;have sb2:=sb1.trans (Q5 (s.heap.update a (Obj.putSet es1 t2)) a (Obj.putSet (order.filterMap (es1[·]?)) t3));refine Qe (h _ true (ks++[k]) sb2 ⟨_,ep+1+1,t3,ks4,Xj (Obj.putSet (order.filterMap (es1[·]?)) t3) g1 rfl,elA sb2 e4,p4'.trans pk1,nd1,l6,by rw[z3,l2];exact fw',?_⟩ (by simp) mm);rw[z3];exact ld2.imp id λz=>⟨l3.trans z.1,λy=>l4.trans (z.2 y)⟩
  rw[Bool.eq_false_iff.mpr tf,Qq (by simp)];refine Qe (h _ true (ks++[k]) sb1 ⟨es1,ep+1,t2,_,g1,elA sb1 el1,pk1,nd1,b2,?_,ld2⟩ (by simp) mm);unfold tooFull at tf;rw[fill2]at tf;have:=of_decide_eq_false (Bool.eq_false_iff.mpr tf);omega
 have tb_off:Tb { t1 with plain:=false } (es1.toList.map (·.1)):=⟨b1.msk,b1.dum,b1.len,b1.up,b1.bd,b1.rch⟩;have led2:∀t2:SetTable,t2.led=t.led->t2.plain=false->LS.Led w t2 es1.size:=λt2 e1 e2=>ld.imp id λz=>⟨e1.trans z.1,λ_=>e2⟩;by_cases pl:t1.plain=true
 ·rw[Qs pl];refine Qa (byv hk ?_);rw[tx];exact fin { t1 with plain:=false } p2 tb_off (led2 _ p3 rfl)
 rw[Qq pl];refine Qa (Qe ?_);exact fin t1 p2 b1 (led2 _ p3 (Bool.eq_false_iff.mpr pl))
end
end Ht
set_option maxHeartbeats 4000000
namespace LG
open PySem PySem.Spec PyProof.Rows LS
section
variable {prog:Program} {w:World} {A:Around} {E:A0} {s:Shared}
theorem call_set_gen {l:Addr} {its:Array Value} {G:Heap->Addr->Prop} {Q:A0} (hh:A.handled=none) (hl:s.heap.IsList l its)
  (loop:∀(I S:Addr) (s0:Shared) (R:Result->Shared->Prop),(∀b o,s.heap.get? b=some o->s0.heap.get? b=some o)->s.heap.objs.size<=S->s.heap.objs.size<=I->l≠I->S∉[I,l]->(s0.heap.IsListIter I l 0/\s0.heap.IsList l its)->s0.heap.get? S=some (bare !(w.params.followText "set-order")) ->
   (∀s',Moved [S,I] (λa b=>b=a) s0 s'->G s'.heap S->R (.ok (.ret .none)) s')->codeAny (model prog w) A.in1.in1 (.builtin "set.update.loop" ⟨[.ref S,.ref I],[]⟩) R s0)
  (h:∀(h1:Heap) (tk:Nat),G h1 s.heap.objs.size->(∀b o,s.heap.get? b=some o->h1.get? b=some o)->Q (.ref s.heap.objs.size) { s with heap:=h1,toks:=tk }) :
  wpAny (model prog w) A (call (.type "set") [.ref l]) Q E s:=by
 obtain⟨cl,tl,mro⟩:=XG.mro;have y1:=XG.made;have y2:=XG.sub;refine wpAny_call (codeAny_of_tree ?_);show wpAny _ _ (callAny (.type "set") ⟨[.ref l],[]⟩) _ _ _;refine Qe ⟨Code.quiet_builtin _ (by decide +kernel),XB F.entry_type_call ?_⟩;rw[Around.under_plain (weight_type_call_type "set" [.ref l] []) rfl];have y3:=XG.notType;have y4:=XG.canCreate;have y5:=F.typeCall_set_1 (.ref l)
 repeat (any_goals (first|assumption|wp_step))
 refine codeAny_mono (l7 (.ref l) (E:=E) (Q₁:=λv s1=>∃led:Bool,led=!(w.params.followText "set-order")/\v=.ref s.heap.objs.size/\s1={ s with heap:=s.heap.push (bare led) }) ⟨_,rfl,rfl,rfl⟩) λr s1 hr=>?_
 cases r with
 | error e=>exact hr
 | ok fl =>
 cases fl with
 | ret obj =>
  obtain⟨led,hled,rfl,rfl⟩:=hr;have hS:(s.heap.push (bare led)).get? s.heap.objs.size=some (bare led):=Qn _ rfl;have hT:Shared.TypeIs { s with heap:=s.heap.push (bare led) } (.ref s.heap.objs.size) "set" := ⟨_,hS,rfl⟩;have y6:=XG.init.lookup;have y7:=XG.init.bind (.ref s.heap.objs.size)
  repeat (any_goals (first|assumption|wp_step))
  refine codeAny_mono (codeAny_call_builtin (R:=wants (λv s2=>v=.none/\∃h1 tk,s2={ s with heap:=h1,toks:=tk }/\G h1 s.heap.objs.size/\∀b o,s.heap.get? b=some o->h1.get? b=some o) E) XG.init.plain F.entry_set_init (check_set_init_1 hT ?_)) λr2 s2 hr2=>?_
  ·obtain⟨ol,hol,hcl,nl,hdl⟩:=hl;obtain⟨ocls,odict,odata,oslots⟩:=ol;simp only at hcl hdl;subst hcl;subst hdl;have hol1:(s.heap.push (bare led)).get? l=some { cls:=.type "list", dict:=odict,data:=.seq its nl,slots:=oslots }:=Qb _ hol;have y8:=F.sub_list_set;have y9:=F.sub_list_frozenset;have y0:(Value.type "list" == Value.type "dict")=false:=by decide
   have hl1:(s.heap.push (bare led)).IsList l its:=⟨_,hol1,rfl,nl,rfl⟩;unfold Builtin.«set.__init__» noKeywords Builtin.Frozenset.updateFrom;generalize hPI:pyIter=PI
   wp_walk
   subst hPI;refine wpAny_pyIter_list hl1 ?_;refine Qa (wpAny_runValue ?_);have lS:l<s.heap.objs.size:=Qo hol
   have nI:l≠(s.heap.push (bare led)).objs.size:=by
    rw[QQ];exact QF (Nat.lt_succ_of_lt lS)
   have nF:s.heap.objs.size∉[(s.heap.push (bare led)).objs.size,l]:=by
    rw[QQ];simp only[Qk,QB,Qx,Xg,not_or];exact⟨QF (Nat.lt_succ_self _),X0 lS⟩
   refine loop _ _ _ _ (λb o e=>Qb _ (Qb _ e)) (Qj _) (by rw[QQ];exact XX _) nI nF ⟨⟨_,Qn _ rfl,rfl,rfl⟩,(hl1.push _)⟩ ?_ λs3 mv q=>?_
   ·have e:((s.heap.push (bare led)).push { cls:=.type "list_iterator", data:=.fields #[.ref l,.int 0 0] }).get? s.heap.objs.size=some (bare led):=Qb _ hS;rw[e,hled]
   obtain⟨h3,g3,d3,tk3,os3⟩:=s3;obtain rfl:g3=s.gens:=mv.gens;obtain rfl:d3=s.drawn:=mv.drawn;obtain rfl:os3=s.os:=mv.os;show wpAny _ _ _ _ _ _;refine Qe ?_;show wpAny _ _ (ret Value.none) _ _ _;refine Qe ⟨rfl,h3,tk3,rfl,q,λb o e=>?_⟩;have lb:=Qo e;have z1:b≠s.heap.objs.size:=QF lb
   have z2:b≠(s.heap.push (bare led)).objs.size:=by
    rw[QQ];exact QF (Nat.lt_succ_of_lt lb)
   exact mv.heap b o (by simp only[Qk,QB,Qx,Xg,not_or];exact⟨z1,z2⟩) (Qb _ (Qb _ e))
  cases r2 with
  | error e=>exact hr2
  | ok fl2 =>
  cases fl2 with
  | ret r =>
   obtain⟨rfl,h1,tk,rfl,q,k⟩:=hr2
   repeat (any_goals (first|assumption|wp_step))
   exact h _ _ q k
  | _=>exact hr2.elim
 | _=>exact hr.elim
end
end LG
set_option maxHeartbeats 400000
namespace LS
open PySem PySem.Spec PyProof.Rows
theorem eZ {α:Type}:∀{l:List α} {i:Nat} (h:i<l.length),(l[i]::l.eraseIdx i).Perm l
 | a::l,0,_=>.refl _
 | a::l,i+1,h=>by
  have hi:i<l.length:=by simpa using h
  have q:=eZ (l:=l) (i:=i) hi;show (l[i]::a::l.eraseIdx i).Perm (a::l);exact(List.Perm.swap _ _ _).trans (q.cons a)
theorem oK {α:Type} (next:Nat->Nat):∀(fuel k:Nat) (left:List α) (out:Array α),left.length=fuel->(pickOrder.go next fuel k left out).toList.Perm (out.toList++left)
 | 0,k,left,out,h=>by
  obtain rfl:left=[]:=List.length_eq_zero_iff.mp h;simp[pickOrder.go]
 | fuel+1,k,left,out,h=>by
  have lt:next k % left.length<left.length:=Nat.mod_lt _ (by omega);have e:left[next k % left.length]?=some left[next k % left.length]:=Qd lt;unfold pickOrder.go;rw[e];refine(oK next fuel (k+1) _ _ (by rw[List.length_eraseIdx_of_lt lt];omega)).trans ?_;rw[Array.toList_push,List.append_assoc];exact List.Perm.append_left _ (eZ lt)
theorem pick_perm {α:Type} (next:Nat->Nat) (xs:Array α):(pickOrder next xs).toList.Perm xs.toList:=by
 have:=oK next xs.size 0 xs.toList #[] (by simp);unfold pickOrder;simpa using this
section
variable {prog:Program} {w:World} {A:Around} {E:A0} {s:Shared} {a it:Addr} {es:Array (Int × Value)} {ep:Nat} {t:SetTable} {i:Nat}
theorem jv {src:Source} {n:Nat} {Q:Nat->Shared->Prop} (hn:n≠0) (h:∀i d,i<n->Q i { s with drawn:=d }):wpAny (model prog w) A (choose src n) Q E s:=λΓ p hΓ=>by
 show Sem.wp (model prog w) Γ (.choose src n .pure) _ _ p s;rw[Sem.wp_choose];refine⟨hn,?_⟩;rw[Sem.wp_pure];exact h _ _ (Nat.mod_lt _ (Nat.pos_of_ne_zero hn))
theorem dO {α:Type}:∀(n:Nat) (xs:List α) (s:Shared) (Q:List α->Shared->Prop),xs.length=n->(∀ys d,ys.Perm xs->Q ys { s with drawn:=d })->wpAny (model prog w) A (drawOrder n xs) Q E s
 | 0,xs,s,Q,h,q=>by
  obtain rfl:xs=[]:=List.length_eq_zero_iff.mp h;exact Qe (q [] s.drawn .nil)
 | n+1,[],s,Q,h,q=>by cases h
 | n+1,x::xs,s,Q,h,q=>by
  unfold drawOrder;refine Qa (jv (by simp) λi d hi=>?_);rw[Qd hi];dsimp only;refine Qa (dO n _ _ _ (by rw[List.length_eraseIdx_of_lt hi];simp at h ⊢;omega) λys d2 pm=>Qe (q _ d2 ?_));exact(List.Perm.cons _ pm).trans (eZ hi)
variable {Q:Option (Value × Nat)->Shared->Prop}
theorem i8 {slot:Nat} (ht:w.params.followText "set-order" = true) (hs:df s.heap a es ep t) (h:Q (((pickOrder (w.params.setOrder a ep) es)[i]?).map λe=>(e.2,slot)) s):wpAny (model prog w) A (setNext a slot i ep) Q E s:=by
 obtain⟨os,hos,hds,_,hf⟩:=id hs;unfold setNext setsByText;refine Qa (Xr hos hds hf ?_);dsimp only;refine Qa (Qa (wpAny_askSetting (Qe ?_)));rw[Qs (show (Setting.params ⟨(model prog w).prog,(model prog w).w.params⟩).followText "set-order" = true from ht),Qq (by simp)];unfold setWalk setsByText;refine Qa (Qa (Xr hos hds hf ?_));dsimp only;refine Qa (Qa (wpAny_askSetting (Qe ?_)));rw[Qs (show (Setting.params ⟨(model prog w).prog,(model prog w).w.params⟩).followText "set-order" = true from ht)];refine Qa (wpAny_askSetting (Qe ?_));exact Qe h
theorem lD {slot:Nat} (ht:w.params.followText "set-order" = false) (hs:df s.heap a es ep t) (h1:es.size<=1) (hl:t.led=true)
  (h:Q (match es[SetTable.below t.place slot]?,t.place[SetTable.below t.place slot]? with|some (_,x),some j=>some (x,j+1)|_,_=>none) s):wpAny (model prog w) A (setNext a slot i ep) Q E s:=by
 obtain⟨os,hos,hds,_,hf⟩:=id hs;unfold setNext setsByText;refine Qa (Xr hos hds hf ?_);dsimp only;refine Qa (Qa (wpAny_askSetting (Qe ?_)));rw[Qq (show ¬(Setting.params ⟨(model prog w).prog,(model prog w).w.params⟩).followText "set-order" = true by rw[show (Setting.params ⟨(model prog w).prog,(model prog w).w.params⟩).followText "set-order" = false from ht];exact Qp)];refine wpAny_ite_split (λhab=>?_) λ_=>?_
 ·have hab:(!t.plain&&decide (es.size>1))=true:=hab;simp at hab;omega
 refine Qa ?_;show wpAny _ _ (if (!t.led&&!es.isEmpty)=true then unsupported "set:maker-not-led" else pure ()) _ _ _;rw[Qq (by rw[hl];simp)];exact Qe (Qe h)
theorem mD (hh:A.handled=none) (ht:w.params.followText "set-order" = true) (I:Addr) (ne:a≠I):Walks prog w A I [I,a] [I] es.size (λi v=>∃e,(pickOrder (w.params.setOrder a ep) es).toList[i]?=some e/\v=e.2) (λi h=>d5 h I a (.int 0 0) i es.size ep/\df h a es ep t) where
 sub:=λb hb=>by simp at hb;simp[hb]
 frame:=λ_ _ _ st hk=>⟨st.1.at λo e=>hk I (by simp) o e,st.2.at λo e=>hk a (by simp) o e⟩
 item:=λi s Q E hi st hQ=>by
  have z:(pickOrder (w.params.setOrder a ep) es).size=es.size:=by simpa using(pick_perm (w.params.setOrder a ep) es).length_eq
  obtain⟨e,he⟩:∃e,(pickOrder (w.params.setOrder a ep) es)[i]?=some e:=⟨_,QG (by rw[z];exact hi)⟩;refine i9 (slot:=0) (next:=0) (x:=e.2) st.1 st.2 (λQ E q=>i8 ht st.2 (by rw[he];exact q)) λh' hit' hs'=>?_;exact hQ _ h' s.toks ⟨e,by rw[QV];exact he,rfl⟩ ⟨hit',st.2.at λo e=>hs'.extBut a o ne e⟩ λb o hb e=>hs'.extBut b o (λh=>hb (by simp[h])) e
 done:=λs Q E st hQ=>by
  have z:(pickOrder (w.params.setOrder a ep) es).size=es.size:=by simpa using(pick_perm (w.params.setOrder a ep) es).length_eq
  exact i_ (slot:=0) hh st.1 st.2 (λQ E q=>i8 ht st.2 (by rw[Array.getElem?_eq_none (by rw[z];exact Qj _)];exact q)) λh' he'=>hQ h' s.toks λb o hb e=>he' b o (λh=>hb (by simp[h])) e
 self:=λ_ _ _ _ st hQ=>jT st.1 hQ
theorem kA (hh:A.handled=none) (I tp:Addr) (pl:List Nat) (hp:pl.Perm (List.range es.size)) (ne:a≠I) (nt:tp≠I):Walks prog w A I [I,a,tp] [I] es.size (λi v=>∃e,(pl.filterMap λj=>es[j]?)[i]?=some e/\v=e.2)
  (λi h=>d5 h I a (.ref tp) i es.size ep/\df h a es ep t/\h.get? tp=some { cls:=.type "tuple", data:=.seq (pl.map λ(i:Nat)=>rawInt i).toArray }) where
 sub:=λb hb=>by simp at hb;simp[hb]
 frame:=λ_ _ _ st hk=>⟨st.1.at λo e=>hk I (by simp) o e,st.2.1.at λo e=>hk a (by simp) o e,hk tp (by simp) _ st.2.2⟩
 item:=λi s Q E hi st hQ=>by
  have pz:pl.length=es.size:=by simpa using hp.length_eq
  have lt:i<pl.length:=by omega
  have all:∀j∈pl,∃e,es[j]?=some e:=λj hj=>⟨_,QG (by simpa using hp.mem_iff.mp hj)⟩;obtain⟨e,he⟩:=all pl[i] (Xi lt)
  have fm:∀(l:List Nat) (i:Nat) (h:i<l.length),(∀j∈l,∃e,es[j]?=some e)->(l.filterMap λj=>es[j]?)[i]?=es[l[i]]?:=by
   intro l
   induction l with
   | nil=>intro i h;simp at h
   | cons x l ih =>
   intro i h al;obtain⟨e,he⟩:=al x Xu;rw[List.filterMap_cons_some he]
   cases i with
   | zero=>rw[List.getElem?_cons_zero];exact he.symm
   | succ i=>rw[List.getElem?_cons_succ];exact ih i (by simpa using h) λj hj=>al j (Qu _ hj)
  refine nJ (p:=pl[i]) st.1 st.2.1 st.2.2 (Qd lt) he λh' hit' hs'=>?_;exact hQ _ h' s.toks ⟨e,by rw[fm pl i lt all];exact he,rfl⟩ ⟨hit',st.2.1.at λo e=>hs'.extBut a o ne e,hs'.extBut tp _ nt st.2.2⟩ λb o hb e=>hs'.extBut b o (λh=>hb (by simp[h])) e
 done:=λs Q E st hQ=>by
  have pz:pl.length=es.size:=by simpa using hp.length_eq
  exact nK hh st.1 st.2.1 st.2.2 (Q8 (by omega)) λh' he'=>hQ h' s.toks λb o hb e=>he' b o (λh=>hb (by simp[h])) e
 self:=λ_ _ _ _ st hQ=>jT st.1 hQ
theorem jr (j k:Nat):SetTable.below #[j] k=if j<k then 1 else 0:=by
 unfold SetTable.below;simp[SetTable.below.go]
theorem pO (hh:A.handled=none) (ht:w.params.followText "set-order" = false) (h1:es.size<=1) (hl:t.led=true) (I:Addr) (ne:a≠I):Walks prog w A I [I,a] [I] es.size (λi v=>∃e,es.toList[i]?=some e/\v=e.2)
  (λi h=>(∃slot:Nat,d5 h I a (.int slot 0) i es.size ep/\(i=0->slot=0)/\(i=1->∃j,t.place=#[j]/\slot=j+1))/\df h a es ep t) where
 sub:=λb hb=>by simp at hb;simp[hb]
 frame:=λ_ _ _ st hk=>let ⟨⟨sl,x,y⟩,z⟩:=st;⟨⟨sl,x.at λo e=>hk I (by simp) o e,y⟩,z.at λo e=>hk a (by simp) o e⟩
 item:=λi s Q E hi st hQ=>by
  obtain⟨⟨sl,x,y,_⟩,z⟩:=st;obtain rfl:i=0:=by omega
  obtain rfl:=y rfl;have e1:es.size=1:=by omega
  obtain⟨os,hos,hds,_,hf⟩:=id z;have pz:t.place.size=1:=by simp[SetTable.fits]at hf;omega
  obtain⟨j,hj⟩:=Array.size_eq_one_iff.mp pz;obtain⟨e,he⟩:=Array.size_eq_one_iff.mp e1;refine i9 (slot:=0) (next:=j+1) (x:=e.2) x z (λQ E q=>lD ht z h1 hl (by rw[hj,jr];simp[he];exact q)) λh' hit' hs'=>?_;exact hQ _ h' s.toks ⟨e,by rw[he];rfl,rfl⟩ ⟨⟨j+1,hit',λq=>by omega,λ_=>⟨j,hj,rfl⟩⟩,z.at λo e=>hs'.extBut a o ne e⟩ λb o hb e=>hs'.extBut b o (λh=>hb (by simp[h])) e
 done:=λs Q E st hQ=>by
  obtain⟨⟨sl,x,y1,y2⟩,z⟩:=st;refine i_ hh x z (λQ E q=>lD ht z h1 hl ?_) λh' he'=>hQ h' s.toks λb o hb e=>he' b o (λh=>hb (by simp[h])) e;by_cases e1:es.size=1
  ·obtain⟨j,hj,rfl⟩:=y2 e1;rw[hj,jr];simpa[e1] using q
  have e0:es=#[]:=by simpa using(show es.size=0 by omega)
  subst e0;simpa using q
 self:=λ_ _ _ _ st hQ=>jT st.1.choose_spec.1 hQ
end
end LS
namespace LG
open PySem PySem.Spec PyProof.Rows PySem.Calls LS
section
variable {prog:Program} {w:World} {A:Around} {E:A0} {s:Shared} {a:Addr}
variable {es:Array (Int × Value)}
theorem rN {o:Obj} {ep:Nat} {t:SetTable} {Q:A0} (hh:A.handled=none) (ho:s.heap.get? a=some o) (hc:o.cls=.type "set") (hd:o.data=.set es ep t) (hb:es.size<scanBound) (hf:t.fits es.size=true) (hl:Led w t es.size)
  (h:∀h' d I (od:List (Int × Value)) fp St,od.Perm es.toList->(∀b o,s.heap.get? b=some o->h'.get? b=some o)->s.heap.objs.size<=I->(∀b∈fp,b=a\/s.heap.objs.size<=b)->Walks prog w A I fp [I] es.size (λi v=>∃e,od[i]?=some e/\v=e.2) St->St 0 h'->Q (.ref I) { s with heap:=h',drawn:=d }) :
  wpAny (model prog w) A (pyIter (.ref a)) Q E s:=by
 have hT:s.TypeIs (.ref a) "set" := ⟨o,ho,hc⟩;have hlt:=Qo ho;refine wpAny_pyIter_slot hT F.slot_set_iter (QZ F.slot_set_iter hT ik ?_ (F.args_set_iter_1 _));unfold Builtin.«frozenset.__iter__» Builtin.Frozenset.slot0 slotArgs;simp only[List.isEmpty_nil,X5,Qz,↓reduceIte,bind_assoc,List.length_nil,bne_self_eq_false];unfold Builtin.Frozenset.addrOf Builtin.Frozenset.sizeOf;refine Qa (Qe ?_)
 try dsimp only
 refine Qa (Qe ?_);refine Qa (Qa (wpAny_setEntries_of ho hd hf (Qe ?_)));unfold setDrawn setsByText;refine Qa (Qa (Xr ho hd hf ?_));dsimp only;refine Qa (Qa (wpAny_askSetting (Qe ?_)));show wpAny _ _ (pure (!(w.params.followText "set-order")&&(!t.plain&&decide (es.size>1)))) _ _ _;refine Qe ?_;have hs0:df s.heap a es ep t:=⟨o,ho,hd,hc,hf⟩
 have plainway:∀(oI:Obj),oI={ cls:=.type "set_iterator", data:=.fields #[.int 0 0,.int 0 0,.ref a,.int es.size 0,.int ep 0] }->d5 (s.heap.push oI) s.heap.objs.size a (.int ((0:Nat):Int) 0) 0 es.size ep/\df (s.heap.push oI) a es ep t:=λoI e=>by
  subst e;exact⟨⟨_,Qn _ rfl,rfl,rfl⟩,hs0.at λo e=>Qb _ e⟩
 refine wpAny_ite_split (λhab=>?_) λhab=>?_
 ·simp only[XJ,Bool.not_eq_true',decide_eq_true_eq]at hab;refine Qa (dO es.size (List.range es.size) s _ (by simp) λpl d pm=>?_);refine Qa (wpAny_newTuple ?_ (by rw[Qc,pm.length_eq,List.length_range];exact fits_of_scanBound hb));unfold setEpoch;have ho1:(s.heap.push { cls:=.type "tuple", data:=.seq (pl.map λ(i:Nat)=>rawInt i).toArray }).get? a=some o:=Qb _ ho;refine Qa (Qa (Xr (s:={ s with heap:=s.heap.push { cls:=.type "tuple", data:=.seq (pl.map λ(i:Nat)=>rawInt i).toArray },drawn:=d }) ho1 hd hf (Qe ?_)));unfold newFields;refine Qa (XR ?_ (by size_fits));refine Qe ⟨_,rfl, "set_iterator", _,⟨_,Qn _ rfl,rfl⟩,b_.lookup,?_⟩;have ne:a≠(s.heap.push { cls:=.type "tuple", data:=.seq (pl.map λ(i:Nat)=>rawInt i).toArray }).objs.size:=by rw[QQ];exact QF (Nat.lt_succ_of_lt hlt)
  have nt:s.heap.objs.size≠(s.heap.push { cls:=.type "tuple", data:=.seq (pl.map λ(i:Nat)=>rawInt i).toArray }).objs.size:=by rw[QQ];exact QF (Nat.lt_succ_self _)
  refine h _ _ _ (pl.filterMap λj=>es[j]?) _ _ ((pm.filterMap _).trans (by rw[filterMap_getElem?_range])) (λb o e=>Qb _ (Qb _ e)) (by rw[QQ];exact XX _) (λb hb=>?_) (kA (ep:=ep) (t:=t) hh _ _ pl pm ne nt) ?_
  ·simp only[Qk,Qx,Xg]at hb;rcases hb with rfl|rfl|rfl
   ·exact .inr (by rw[QQ];exact XX _)
   ·exact .inl rfl
   exact .inr (Qj _)
  exact⟨⟨_,Qn _ rfl,rfl,rfl⟩,hs0.at λo e=>Qb _ (Qb _ e),Qb _ (Qn _ rfl)⟩
 refine Qa (Qe ?_);unfold setEpoch;refine Qa (Qa (Xr ho hd hf (Qe ?_)));unfold newFields;refine Qa (XR ?_ (by size_fits));refine Qe ⟨_,rfl, "set_iterator", _,⟨_,Qn _ rfl,rfl⟩,b_.lookup,?_⟩;obtain⟨i0,s0⟩:=plainway _ rfl;have ne:a≠s.heap.objs.size:=QF hlt
 have fpok:∀b∈[s.heap.objs.size,a],b=a\/s.heap.objs.size<=b:=λb hb=>by
  simp only[Qk,Qx,Xg]at hb;rcases hb with rfl|rfl
  ·exact .inr (Qj _)
  exact .inl rfl
 cases ht:w.params.followText "set-order" with
 | true=>exact h _ s.drawn _ _ _ _ (pick_perm (w.params.setOrder a ep) es) (λb o e=>Qb _ e) (Qj _) fpok (mD (ep:=ep) (t:=t) hh ht _ ne) ⟨i0,s0⟩
 | false =>
 rcases hl with z|⟨z1,z2⟩
 ·rw[ht]at z;cases z
 have h1:es.size<=1:=by
  rw[ht]at hab;by_cases e0:es.size=0
  ·omega
  rw[z2 e0]at hab;simp at hab;omega
 exact h _ s.drawn _ _ _ _ (.refl _) (λb o e=>Qb _ e) (Qj _) fpok (pO (ep:=ep) hh ht h1 z1 _ ne) ⟨⟨0,i0,λ_=>rfl,λz=>by cases z⟩,s0⟩
theorem tJ {r:Addr} {Q:Bool->Shared->Prop} (hT:s.TypeIs (.ref r) "set") (h:Q false s):wpAny (model prog w) A (Builtin.List.listLengthHint (.ref r)) Q E s:=by
 unfold Builtin.List.listLengthHint;refine Qa (wpAny_specialOf hT PySem.F.slot_set_len.lookup ?_);generalize hid:("set.__len__" : String)=id0
 wp_delta
 rw[show splitId id0=some ("set", "__len__") from by subst hid;decide +kernel];subst hid;refine Qa (wpAny_isInstance (T := "set") (b:=true) hT (by rw[isSubtype_type];kernel_rfl) ?_);refine wpAny_ite_split (λhab=>absurd hab (by decide)) (λ_=>?_);refine wpAny_ite_split (λ_=>?_) (λhab=>absurd (by decide +kernel) hab);refine Qa (wpAny_typeOf hT ?_);exact Qe h
theorem collect_set {o:Obj} {ep:Nat} {t:SetTable} {R:List Value->Shared->Prop} (hh:A.handled=none) (ho:s.heap.get? a=some o) (hc:o.cls=.type "set") (hd:o.data=.set es ep t) (hb:es.size<scanBound) (hf:t.fits es.size=true) (hl:Led w t es.size)
  (h:∀g tk d (od:List (Int × Value)),od.Perm es.toList->(∀b o,s.heap.get? b=some o->g.get? b=some o)->s.heap.objs.size<=g.objs.size->R (od.map (·.2)) { s with heap:=g,toks:=tk,drawn:=d }):wpAny (model prog w) A (collect (.ref a)) R E s:=by
 have hlt:=Qo ho;have nz:es.size<=sizeLine:=fits_of_scanBound hb;unfold collect;refine Qa (wpAny_runValue (XB entry_proto_collect' ?_));rw[Xp PySem.F.plain_proto_collect _];refine Qa (XR (Qe ⟨plainId_quiet PySem.F.plain_list_iadd _,XB entry_list_iadd' ?_⟩));rw[Xp PySem.F.plain_list_iadd _];show wpAny _ _ (Builtin.List.listExtendWith (.ref s.heap.objs.size) (.ref a) (.ref s.heap.objs.size)) _ _ { s with heap:=s.heap.push { cls:=.type "list", data:=.seq ([]:List Value).toArray } };generalize hL:({ cls:=.type "list", data:=.seq ([]:List Value).toArray }:Obj)=L;have ho1:(s.heap.push L).get? a=some o:=Qb _ ho;have hS:(s.heap.push L).get? s.heap.objs.size=some L:=Qn _ (by rw[<-hL];rfl);have nS:s.heap.objs.size≠a:=X0 hlt;unfold Builtin.List.listExtendWith;refine Qa (wpAny_typeOf (T := "set") (s:={ s with heap:=s.heap.push L }) ⟨o,ho1,hc⟩ ?_);have h1:Builtin.List.listSameRef (.ref s.heap.objs.size) (.ref a)=false:=by simp[Builtin.List.listSameRef,nS]
 have h2:(Value.type "set" == Value.type "list")=false:=by decide
 have h3:(Value.type "set" == Value.type "tuple")=false:=by decide
 simp only[h1,h2,h3,Bool.or_false,Qz,Xs];refine Qa (rN (A:=A.in1) (s:={ s with heap:=s.heap.push L }) hh ho1 hc hd hb hf hl λh' d I od fp St om k hI hfp W st=>?_);have k':∀b o,s.heap.get? b=some o->h'.get? b=some o:=λb o e=>k b o (Qb _ e);have szL:(s.heap.push L).objs.size=s.heap.objs.size+1:=QQ ..;have nI:s.heap.objs.size≠I:=by have:=hI;simp only[szL]at this;omega
 have hI':s.heap.objs.size<=I:=by simp only[szL]at hI;omega
 have nF:s.heap.objs.size∉fp:=λz=>by
  rcases hfp _ z with y|y
  ·exact nS y
  simp only[szL]at y;omega
 have hS1:h'.get? s.heap.objs.size=some L:=k _ _ hS;refine Qa (QT (tJ (s:={ s with heap:=h',drawn:=d }) ⟨o,k' a o ho,hc⟩ ?_))
 have key:∀(g:Heap) (c₁ tk:Nat),St 0 g->(∀b o,b≠s.heap.objs.size->h'.get? b=some o->g.get? b=some o)->g.get? s.heap.objs.size=some { cls:=.type "list", data:=.seq #[] c₁ } ->
   codeAny (model prog w) A (.builtin "list.extend.loop" ⟨[.ref s.heap.objs.size,.ref I,.ref s.heap.objs.size],[]⟩) (λr s'=>∃(g:Heap) (tk:Nat) (acc:Array Value) (c:Nat),r=.ok (.ret (.ref s.heap.objs.size))/\s'={ s with heap:=g,toks:=tk,drawn:=d } /\
   (∀b o,s.heap.get? b=some o->g.get? b=some o)/\g.get? s.heap.objs.size=some { cls:=.type "list", dict:=none,data:=.seq acc c,slots:=#[] }/\PySem.ItemsOf (λi v=>∃e,od[i]?=some e/\v=e.2) acc es.size) { s with heap:=g,toks:=tk,drawn:=d }:=by
  intro g c₁ tk hst hk hS₁;refine codeAny_extend_loopS W.toS nz _ nF _ es.size 0 _ #[] c₁ rfl (QU _) hst hS₁ (ItemsOf.nil _) λs' acc' c' hm hS' hacc=>?_;rw[Moved.eq_with hm];refine⟨s'.heap,s'.toks,acc',c',rfl,rfl,λb o e=>hm.heap b o (λhmem=>?_) (hk b o (QF (Qo e)) (k' b o e)),hS',hacc⟩;rcases Qk.mp hmem with e'|hmem
  ·exact absurd (Qo e) (by rw[e'];exact X6 _)
  exact absurd (Qo e) (by rw[QB.mp hmem];exact Nat.not_lt.mpr hI')
 have all:∀(acc:Array Value),PySem.ItemsOf (λi v=>∃e,od[i]?=some e/\v=e.2) acc es.size->acc.toList=od.map (·.2):=λacc ⟨z1,z2⟩=>by
  refine List.ext_getElem? λi=>?_;rw[QV,Qv];by_cases hi:i<es.size
  ·obtain⟨e,e1,e2⟩:=z2 i acc[i] (QG (by omega));rw[QG (by omega),e1,e2];rfl
  rw[Array.getElem?_eq_none (by omega),Q8 (by rw[om.length_eq,Qg];omega)];rfl
 subst hL;refine wpAny_ite_split (λ_=>?_) (λ_=>Qe ⟨plainId_quiet PySem.F.plain_extend_loop _,codeAny_mono (key h' 0 s.toks st (λb o _ e=>e) hS1) λr s' y=>?_⟩)
 ·refine Qa (wpAny_rule ?_);refine Qa ?_;show wpAny _ _ (updateSeq s.heap.objs.size (·.push .none) >>= λ_=>updateSeq s.heap.objs.size (·.pop)) _ _ _;refine Qa (wpAny_updateSeq hS1 rfl ?_);have hS2:=Xj (Obj.mapSeq (·.push Value.none)) hS1 rfl;refine wpAny_updateSeq (hz:=by seq_fits) hS2 rfl ?_;have hS3:=Xj (Obj.mapSeq (·.pop)) hS2 rfl;refine Qe ⟨plainId_quiet PySem.F.plain_extend_loop _,codeAny_mono (key _ _ s.toks ?_ (λb o hb e=>?_) hS3) λr s' y=>?_⟩
  ·refine W.frame 0 _ _ st λb hb o e=>?_;have hbS:b≠s.heap.objs.size:=λh=>nF (h▸hb);exact(Xl _ _ (Ne.symm hbS)).trans ((Xl _ _ (Ne.symm hbS)).trans e)
  ·exact(Xl _ _ (Ne.symm hb)).trans ((Xl _ _ (Ne.symm hb)).trans e)
  obtain⟨g,tk,acc,c,rfl,rfl,kk,at',it⟩:=y;exact Qa (wpAny_load at' (Qe (by rw[all acc it];exact h g tk d od om kk (Nat.le_of_lt (Qo at')))))
 obtain⟨g,tk,acc,c,rfl,rfl,kk,at',it⟩:=y;exact Qa (wpAny_load at' (Qe (by rw[all acc it];exact h g tk d od om kk (Nat.le_of_lt (Qo at')))))
end
end LG
set_option maxHeartbeats 1000000
namespace Ht
open PySem PySem.Spec PyProof.Rows L2 LS
section
variable {B:Addr->Prop} {prog:Program} {w:World} {A:Around} {E:A0} {s:Shared}
def Tps (h0 h:Heap):Prop:=∀b o,h0.get? b=some o->o.cls=.type "tuple" -> h.get? b=some o
theorem set_loop {R:Result->Shared->Prop} {I S l:Addr} {its:Array Value} {h0:Heap} {kf:Nat->ax} (hh:A.handled=none) (hu:A.units+3<cLine) (nI:l≠I) (nS:S∉[I,l]) (new:∀b∈[S,I],h0.get? b=none)
  (hg:∀i v,its[i]?=some v->∃b,v=.ref b/\TK.IsT (az prog w) h0 (kf i) b/\(kf i).all byV2=false/\B b) (few:∀us:List ax,us.Nodup->(∀x∈us,∃j,j<its.size/\kf j=x)->us.length<76) :
  ∀(m i:Nat) (s:Shared) (ks:List ax),its.size-i=m->i<=its.size->(s.heap.IsListIter I l i/\s.heap.IsList l its)->Tps h0 s.heap->SetK prog w B s.heap S ks->(∀x,x∈ks↔∃j,j<i/\kf j=x) ->
   (∀s' ks',Moved [S,I] (λa b=>b=a) s s'->SetK prog w B s'.heap S ks'->(∀x,x∈ks'↔∃j,j<its.size/\kf j=x)->R (.ok (.ret .none)) s') ->
   codeAny (model prog w) A (.builtin "set.update.loop" ⟨[.ref S,.ref I],[]⟩) R s:=by
 have W:=(Walks.list (prog:=prog) (w:=w) (show A.in1.handled=none by simp[hh]) I l nI its).toS;have nSI:S≠I:=λz=>nS (by simp[z]);have more:∀b∈[I],b∈[S,I]:=λb z=>Qu _ z
 have setk:∀{s s':Shared} {ks:List ax},Tps h0 s.heap->Moved [I] (λa b=>b=a) s s'->s.heap.IsListIter I l 0\/True->SetK prog w B s.heap S ks->(∀o,s.heap.get? I=some o->o.cls≠.type "tuple")->SetK prog w B s'.heap S ks:=λ{s s' ks} tp mv _ q ni=>by
  obtain⟨es,ep,t,ks',h1,h2,h3⟩:=q;exact⟨es,ep,t,ks',mv.heap S _ (by simpa using nSI) h1,Paired.mapT h2 λe k ⟨b,e1,e2,e3⟩=>⟨b,e1,Tm.bY e2 λc o hc ht=>mv.heap c o (λz=>by simp at z;subst z;exact ni o hc ht) hc,e3⟩,h3⟩
 have notI:∀{s:Shared} {i:Nat},s.heap.IsListIter I l i->∀o,s.heap.get? I=some o->o.cls≠.type "tuple" := λ⟨o',h1,h2,_⟩ o e z=>by
  rw[h1]at e;cases e;rw[h2]at z;exact absurd (Value.type.inj z) (by decide)
 have tps:∀{s s':Shared},Tps h0 s.heap->Moved [S,I] (λa b=>b=a) s s'->Tps h0 s'.heap:=λtp mv b o e ht=>mv.heap b o (λz=>by rw[new b z]at e;cases e) (tp b o e ht);intro m
 induction m with
 | zero =>
  intro i s ks em hi st tp q mm fin;obtain rfl:i=its.size:=by omega
  refine XB F.entry_set_update_loop ?_;rw[Xp X4 _];show wpAny _ A.in1 (pyNext (.ref I) >>= _) _ _ s;exact Qa (W.done s _ _ st λs1 mv=>Qe (fin s1 ks (mv.mono more) (setk tp mv (.inr trivial) q (notI st.1)) mm))
 | succ m ih =>
 intro i s ks em hi st tp q mm fin;have lt:i<its.size:=by omega
 refine XB F.entry_set_update_loop ?_;rw[Xp X4 _];show wpAny _ A.in1 (pyNext (.ref I) >>= _) _ _ s;refine Qa (W.item i s _ _ lt st λv s1 hP st1 mv=>?_);obtain⟨b,rfl,hb,tx,hB⟩:=hg i v hP;have q1:=setk tp mv (.inr trivial) q (notI st.1);have tp1:=tps tp (mv.mono more);have hb1:TK.IsT (az prog w) s1.heap (kf i) b:=Tm.bY hb tp1;show wpAny _ A.in1 (holding [Value.ref b] (setAdd S (.ref b)) >>= _) _ _ s1;refine Qa (QT ?_);unfold setAdd;refine QT (Qa ((bg prog w).pyHash (k:=kf i) (show A.units+1+1<cLine by omega) hb1 ?_));have kn:ks.Nodup:=let ⟨_,_,_,_,_,_,_,n,_⟩:=q;n;refine yB (s:={ s1 with toks:=s1.toks+(bg prog w).draws (kf i) }) (show A.units+1+1<cLine by omega) q1 hb1 tx hB (few ks kn λx hx=>by obtain⟨j,hj,e⟩:=(mm x).mp hx;exact⟨j,by omega,e⟩) λh2 _ ks2 sb q2 _ m2=>?_
 have mv2:Moved [S,I] (λa b=>b=a) s { s1 with heap:=h2,toks:=s1.toks+(bg prog w).draws (kf i) }:=(mv.mono more).then_heap (QP _ _) λb o z e=>by
  rw[sb.2 b (λy:b=S=>z (by rw[y];exact Xu))];exact e
 refine Qe ⟨plainId_quiet X4 _,ih (i+1) _ ks2 (by omega) lt (W.frame _ s1 _ _ st1 (QP _ _) λb z o e=>?_) (tps tp mv2) q2 (λx=>?_) λs3 ks3 mv3 q3 m3=>fin s3 ks3 (Moved.trans W.gtrans mv2 mv3) q3 m3⟩
 ·rw[sb.2 b (λy:b=S=>nS (by rw[<-y];exact z))];exact e
 rw[m2,mm]
 constructor
 ·rintro(⟨j,hj,e⟩|e)
  ·exact⟨j,by omega,e⟩
  exact⟨i,by omega,e.symm⟩
 rintro⟨j,hj,e⟩;rcases Nat.lt_succ_iff_lt_or_eq.mp hj with z|z
 ·exact .inl ⟨j,z,e⟩
 subst z;exact .inr e.symm
theorem call_set {l:Addr} {its:Array Value} {kf:Nat->ax} {Q:A0} (hh:A.handled=none) (hu:A.units+8<cLine) (hl:s.heap.IsList l its)
  (hg:∀i v,its[i]?=some v->∃b,v=.ref b/\TK.IsT (az prog w) s.heap (kf i) b/\(kf i).all byV2=false/\B b) (few:∀us:List ax,us.Nodup->(∀x∈us,∃j,j<its.size/\kf j=x)->us.length<76)
  (h:∀(h1:Heap) (tk:Nat) (ks:List ax),SetK prog w B h1 s.heap.objs.size ks->(∀x,x∈ks↔∃j,j<its.size/\kf j=x)->(∀b o,s.heap.get? b=some o->h1.get? b=some o)->Q (.ref s.heap.objs.size) { s with heap:=h1,toks:=tk }) :
  wpAny (model prog w) A (call (.type "set") [.ref l]) Q E s:=by
 refine LG.call_set_gen (G:=λh S=>∃ks,SetK prog w B h S ks/\∀x,x∈ks↔∃j,j<its.size/\kf j=x) hh hl (λI S s0 R kp hS hI nI nS st g fin=>?_) λh1 tk ⟨ks,q,m⟩ kp=>h h1 tk ks q m kp
 have nw:∀b∈[S,I],s.heap.get? b=none:=λb hb=>by
  simp only[Qk,Qx,Xg]at hb;rcases hb with rfl|rfl
  ·exact Heap.get?_none_of_le hS
  exact Heap.get?_none_of_le hI
 exact set_loop (A:=A.in1.in1) (h0:=s.heap) (kf:=kf) (by simp[hh]) (show A.units+1+1+3<cLine by omega) nI nS nw hg few (its.size-0) 0 s0 [] rfl (QU _) st (λb o e _=>kp b o e) (SetK.new g) (λx=>by simp) λs' ks' mv q m=>fin s' mv ⟨ks',q,m⟩
theorem SetK.raw {h:Heap} {a:Addr} {ks:List ax} (x:SetK prog w B h a ks):∃es ep t ks',h.get? a=some (ur es ep t)/\Paired (El prog w B h) es.toList ks'/\ks'.Perm ks/\ks.Nodup/\es.size=ks.length/\es.size<scanBound/\t.fits es.size=true/\Led w t es.size:=by
 obtain⟨es,ep,t,ks',h1,h2,h3,h4,h5,h6,h7⟩:=x;have t127:t.mask<=127:=by rcases h5.msk with e|e|e <;> omega
 refine⟨es,ep,t,ks',h1,h2,h3,h4,by rw[<-Qg,Xo h2,h3.length_eq],by unfold scanBound;omega,?_,h7⟩;have:=h5.fits (by rw[Qc,Qg];omega);rwa [Qc,Qg]at this
theorem els_refs {h:Heap}:∀{od:List (Int × Value)} {ks:List ax},Paired (El prog w B h) od ks->∃bs:A3,od.map (·.2)=bs.map Value.ref/\Paired (λb k=>TK.IsT (az prog w) h k b/\B b) bs ks
 | _,_,.nil=>⟨[],rfl,.nil⟩
 | _,_,.cons ⟨b,e1,e2,e3⟩ t=>by
  obtain⟨bs,h1,h2⟩:=els_refs t;exact⟨b::bs,by rw[Qt,Qt,e1,h1],.cons ⟨e2,e3.2⟩ h2⟩
end
end Ht
namespace L2
open PySem PySem.Spec PyProof.Rows PySem.Calls
theorem Inv.drawn {X:Cx} {pins:A1} {U:List (Option V)} {H:Hp} {s:Shared} (I:Inv X pins U H s) (d:Drawn):Inv X pins U H { s with drawn:=d }:=⟨I.ok,I.os,I.bare,I.base,I.loc,I.cell,I.free,I.freeC,I.pin,I.hok,I.len⟩
section
variable {X:Cx} {a:Expr} {ta:TA} {p p1 pos pos1:Pos}
def iA (K:PySem.W.Frag) (H:Hp) (vs:List V) (ks:List ax):Prop:=∃(l:Addr) (bs:A3),vs=[.ref l]/\SqL K H l (bs.map V.ref)/\KsA H bs ks/\(∀k∈ks,k.all Ht.byV2=false)/\∀us:List ax,us.Nodup->(∀x∈us,x∈ks)->us.length<64
def kJ (K:PySem.W.Frag) (ta:TA):TE:=λU H Q=>ta U H λvs H1=>∃ks:List ax,iA K H1 vs ks/\∀us:List ax,us.Nodup->(∀x,x∈us↔x∈ks)->Q (.int us.length) H1
def iP (K:PySem.W.Frag) (ta:TA):TE:=λU H Q=>ta U H λvs H1=>∃(ks:List ax) (b:Bool),iA K H1 vs ks/\rb b ks/\∀(p:Addr) (bs':A3) (us:List ax),H1 p=none->KsA H1 bs' us->us.Nodup->(∀x,x∈us↔x∈ks)->us.Pairwise leF->Q (.ref p) (upd H1 p (.lst (bs'.map V.ref)))
theorem kQ {pins:A1} {U:St} {H:Hp} {s:Shared} {us:List Value} {vs:List V} {ks:List ax} {Q:A0} (hc:X.calm=true) (hu:X.A.units+8<cLine) (I:Inv X pins U H s) (r:aO vs us) (h:iA X.K H vs ks)
  (q:∀(h1:Heap) (tk:Nat) (ks':List ax),Ht.SetK X.prog X.w (λb=>bH H (cU H b) b) h1 s.heap.objs.size ks'->(∀x,x∈ks'↔x∈ks)->(∀b o,s.heap.get? b=some o->h1.get? b=some o)->Q (.ref s.heap.objs.size) { s with heap:=h1,toks:=tk }) :
  wpAny (model X.prog X.w) X.A (call (.type "set") us) Q X.xe s:=by
 obtain⟨l,bs,rfl,hl,ka,tx,few⟩:=h;obtain⟨u1,rfl,ru1⟩:=cT r;cases ru1;obtain⟨its,rv,pl,_⟩:=I.list hl;have ei:=eO rv;have bl:=Xo ka;have zz:its.toArray.size=ks.length:=by rw[Qi,ei,Qc,bl]
 obtain⟨ek,tk⟩:=ka.tk
 have kfm:∀x,(∃j,j<its.toArray.size/\ks.getD j []=x)↔x∈ks:=λx=>by
  rw[zz]
  constructor
  ·rintro⟨j,hj,rfl⟩;rw[Qr,Qd hj];exact Xi hj
  intro hx;obtain⟨j,hj,e⟩:=QX hx;exact⟨j,hj,by rw[Qr,Qd hj];exact e⟩
 refine Ht.call_set (B:=λb=>bH H (cU H b) b) (its:=its.toArray) (kf:=λi=>ks.getD i []) (I.ok.hd hc) hu pl.isList (λi v hv=>?_) (λus nd h=>Nat.lt_trans (few us nd λx hx=>(kfm x).mp (h x hx)) (by decide)) λh1 tk ks' q1 m kp=>q h1 tk ks' q1 (λx=>(m x).trans (kfm x)) kp;have hv:its[i]?=some v:=by simpa using hv
 rw[ei,Qv]at hv;obtain⟨b,hb,rfl⟩:=XD.mp hv;have hi:=(Qf.mp hb).1;have ej:ks[i]?=some (cU H b):=by rw[ek,Qv,hb];rfl
 have eg:ks.getD i []=cU H b:=by rw[Qr,ej];rfl
 have tb:=tk b (Ql hb);rw[eg];exact⟨b,rfl,dH I.hok tb,tx _ (Ql ej),tb⟩
theorem mV (hc:X.calm=true) (hu:X.A.units+8<cLine) (hg:Gl X "len") (hm:X.mg "len" = none) (hg1:Gl X "set") (hm1:X.mg "set" = none) (ha:PA X [a] ta) (hs:starEach [a] X.env=[(false,eval a X.env)]:=by rfl)
  (he:starEach [.Call (.Name "set" p1) [a] [] pos1] X.env=[(false,eval (.Call (.Name "set" p1) [a] [] pos1) X.env)]:=by rfl):PE X (.Call (.Name "len" p) [.Call (.Name "set" p1) [a] [] pos1] [] pos) (kJ X.K ta):=by
 intro pins s U H Q I h;refine wpAny_Call_Name_kw (cr I hg hm QJ ?_);refine PyProof.Rows.callWith_builtin1 ?_ he rfl;rw[he];show wpAny _ _ (spliced ((false,eval (.Call (.Name "set" p1) [a] [] pos1) X.env)::backTo pos [])) _ _ s;refine Calls.spliced_cons ?_;refine Call_ (cr I hg1 hm1 PyProof.Rows.boot_set (Q9 (thn (ha pos1 pins s U H _ I h) λus s1 z=>?_) hs rfl));obtain⟨vs,H1,I1,r1,ks,so,q⟩:=z;refine kQ hc hu I1 r1 so λh1 tk ks' sk mm kp=>Calls.spliced_nil ?_;obtain⟨es,ep,t,ks2,g1,g2,g3,g4,g5,g6,g7,g8⟩:=sk.raw;refine PySem.call_len_set g1 ⟨rfl,rfl,rfl⟩ rfl g7 (by unfold scanBound at g6;omega) ?_;exact⟨.int ks'.length,H1,I1.kept (t':=tk+1+1) kp,⟨tk+1,by rw[g5]⟩,q ks' g4 mm⟩
theorem lj (hc:X.calm=true) (hu:X.A.units+8<cLine) (hg:Gl X "sorted") (hm:X.mg "sorted" = none) (hg1:Gl X "set") (hm1:X.mg "set" = none) (ha:PA X [a] ta) (hs:starEach [a] X.env=[(false,eval a X.env)]:=by rfl)
  (he:starEach [.Call (.Name "set" p1) [a] [] pos1] X.env=[(false,eval (.Call (.Name "set" p1) [a] [] pos1) X.env)]:=by rfl):PE X (.Call (.Name "sorted" p) [.Call (.Name "set" p1) [a] [] pos1] [] pos) (iP X.K ta):=by
 intro pins s U H Q I h;refine wpAny_Call_Name_kw (cr I hg hm Xd ?_);refine PyProof.Rows.callWith_builtin1 ?_ he rfl;rw[he];show wpAny _ _ (spliced ((false,eval (.Call (.Name "set" p1) [a] [] pos1) X.env)::backTo pos [])) _ _ s;refine Calls.spliced_cons ?_;refine Call_ (cr I hg1 hm1 PyProof.Rows.boot_set (Q9 (thn (ha pos1 pins s U H _ I h) λus s1 z=>?_) hs rfl));obtain⟨vs,H1,I1,r1,ks,b,so,sp,q⟩:=z;have fw:∀us:List ax,us.Nodup->(∀x∈us,x∈ks)->us.length<64:=let ⟨_,_,_,_,_,_,few⟩:=so;few;refine kQ hc hu I1 r1 so λh1 tk ks' sk mm kp=>Calls.spliced_nil ?_;obtain⟨es,ep,t,ks2,g1,g2,g3,g4,g5,g6,g7,g8⟩:=sk.raw;refine Calls.call_function_entry kind_sorted plain_sorted entry_sorted (args_sorted1 _) ?_;unfold Builtin.«sorted»;refine Qa (m:=checkCount "sorted" 1 1 _) (Qe ?_);refine Qa (LG.collect_set (A:=X.A.in1) (s:={ s1 with heap:=h1,toks:=tk }) (show X.A.in1.handled=none by simp[I1.ok.hd hc]) g1 rfl rfl g6 g7 g8 λh2 tk2 d od po kp2 z2=>?_);obtain⟨ks3,e3,p3⟩:=Ht.paired_perm po g2;obtain⟨bs,ev,pb⟩:=Ht.els_refs e3;have lb:bs.length=ks'.length:=by rw[Xo pb,p3.length_eq,g3.length_eq]
 have l64:ks'.length<64:=fw ks' g4 λx hx=>(mm x).mp hx;rw[ev];refine Qa (wpAny_newList ?_ (by rw[Qc,XY];omega))
 have kb:KsA H1 bs (bs.map (cU H1))/\ks3=bs.map (cU H1):=by
  have I3:=I1.kept (t':=tk) kp;clear ev lb e3 p3
  induction pb with
  | nil=>exact⟨.nil,rfl⟩
  | @cons b k bs ks r _ ih =>
  obtain⟨i1,i2⟩:=ih;refine⟨.cons r.2 i1,?_⟩;have:=(dH I3.hok r.2).inj r.1;rw[Qt,this,<-i2]
 obtain⟨kb,ek3⟩:=kb;have mem:∀c∈bs,cU H1 c∈ks:=λc hc=>(mm _).mp (g3.mem_iff.mp (p3.mem_iff.mp (by rw[ek3];exact Qm.mpr ⟨c,hc,rfl⟩)));have tkb:=kb.tk.2;have I3:=I1.kept (t':=tk) kp;have hoL:(h2.push (seqObj "list" (bs.map Value.ref).toArray 0)).get? h2.objs.size=some (seqObj "list" (bs.map Value.ref).toArray 0):=Qn _ rfl
 refine Qa (QT (QZ (s:={ s1 with heap:=h2.push (seqObj "list" (bs.map Value.ref).toArray 0),toks:=tk2,drawn:=d }) slot_list_sort ⟨_,hoL,rfl⟩ entry_list_sort
  (Tm.hX (up:=λA=>A.units<cLine) hoL (Tm.l_ (b:=b) hoL (λz=>absurd (Value.type.inj z) (by decide)) (λc hc=>Tm.bY (dH I3.hok (tkb c hc)) λb o e _=>Qb _ (kp2 _ _ e)) ⟨λx hx y hy=>sp.1 _ (mem x hx) _ (mem y hy),λx hx=>sp.2 _ (mem x hx)⟩) (show X.A.units+1+1<cLine by omega) (by rw[Qc,lb];exact l64) λout p1 p2=>⟨_,rfl,?_⟩) (args_list_sort _)))
 obtain⟨m,at'⟩:=Tm.eI (vs:=bs.map Value.ref) (out:=out) hoL;obtain⟨bs',pm,eo⟩:=iU p1;rw[eo,QN]at p2
 have so':(bs'.map (cU H1)).Pairwise leF:=by
  rw[QN];refine p2.imp_of_mem λ{x y} hx hy hq=>?_;have hq:Tm.lb (((Tm.lO bs (cU H1)).keyOf (.ref y)).getD []) (((Tm.lO bs (cU H1)).keyOf (.ref x)).getD [])=false:=hq;rw[Tm.fo _ (pm.mem_iff.mp hx),Tm.fo _ (pm.mem_iff.mp hy)]at hq;exact hq
 have pmk:(bs'.map (cU H1)).Perm ks':=((pm.map _).trans (by rw[<-ek3];exact p3)).trans g3;have I4:=(I3.kept (t':=tk2) kp2).drawn d
 exact Qe ⟨_,rfl,.ref h2.objs.size,_,I4.laid (o:=.lst (bs'.map V.ref)) (t':=tk2) (λb o e=>Tm.dS (QF (Qo e)) (Qb _ e)) (Qj _) ⟨by rw[Qc,pm.length_eq,lb,XY];omega,out.toList,m,by rw[eo];exact fG _,by rw[Array.toArray_toList];exact at'⟩,rfl,
  q _ bs' _ (I4.hok.fresh (Qj _)) (nB λb hb=>tkb b (pm.mem_iff.mp hb)) (pmk.nodup_iff.mpr g4) (λx=>pmk.mem_iff.trans (mm x)) so'⟩
end
end L2
set_option maxHeartbeats 4000000
namespace L2
open PySem PySem.Spec PyProof.Rows
variable {pins:A1}
theorem Inv.turnedL {X:Cx} {U:St} {H:Hp} {s:Shared} {h':Heap} {t':Nat} {T:Addr} {o:HO} {ch:A3} (I:Inv X pins U H s) (k:∀b o,b∉ch->s.heap.get? b=some o->h'.get? b=some o)
  (f:∀b∈ch,d6 X pins H b) (hT:s.heap.objs.size<=T) (new:a_ X.prog X.w (upd H T o) h' T o):Inv X pins U (upd H T o) { s with heap:=h',toks:=t' }:=by
 have hn:H T=none:=I.hok.fresh hT;have nT:∀b u,s.heap.get? b=some u->b≠T:=λb u q=>QF (QR (Qo q) hT);have n:∀b u,H b=some u->b∉ch:=λb u q z=>by rw[(f b z).1]at q;cases q
 refine I.step (g':=s.gens) (d':=s.drawn) (ch:=ch) (λb hb=>?_) (λb u _ _ hc q _=>k b u hc q) (λb u _ _ hc q _=>⟨u.slots,k b u hc q⟩) (λb u _ q n=>by rw[aq (nT b u q)];exact n)
  (λb u hc q=>⟨u,k b u hc q⟩) (λb xs q=>by rw[aq (aA q hn)];exact q) (λb u xs q=>by rw[aq (aA q hn)];exact q) (λb ps q=>⟨#[],by rw[aq (aA q hn),q];simp⟩) (λm hm=>?_) (λb u q=>?_) I.bare
 ·obtain⟨_,a2,_,a4,a5,a6⟩:=f b hb;exact⟨a4,a2,a5,a6⟩
 ·obtain⟨ob,es,ep,ho,r⟩:=hm;exact⟨ob,es,ep,k _ ob (λz=>(f _ z).2.1 rfl) ho,r⟩
 by_cases hb:b=T
 ·subst hb;rw[ah]at q;cases q;exact new
 rw[aq hb]at q;refine(I.hok b u q).stay (λc v hc z=>k c v ?_ z) (λc z=>by rw[aq (aA z hn)];exact z) λc xs z=>by rw[aq (aA z hn)];exact z
 rcases hc with z|z
 ·rw[z];exact n b u q
 exact n c _ z
theorem Inv.turnedE {X:Cx} {U:St} {H:Hp} {s:Shared} {h':Heap} {t':Nat} {ch:A3} (I:Inv X pins U H s) (k:∀b o,b∉ch->s.heap.get? b=some o->h'.get? b=some o)
  (f:∀b∈ch,d6 X pins H b):Inv X pins U H { s with heap:=h',toks:=t' }:=by
 have n:∀b u,H b=some u->b∉ch:=λb u q z=>by rw[(f b z).1]at q;cases q
 refine I.step (g':=s.gens) (d':=s.drawn) (ch:=ch) (λb hb=>?_) (λb u _ _ hc q _=>k b u hc q) (λb u _ _ hc q _=>⟨u.slots,k b u hc q⟩) (λb u _ q n=>n)
  (λb u hc q=>⟨u,k b u hc q⟩) (λb xs q=>q) (λb u xs q=>q) (λb ps q=>⟨#[],by rw[q];simp⟩) (λm hm=>?_) (λb u q=>?_) I.bare
 ·obtain⟨_,a2,_,a4,a5,a6⟩:=f b hb;exact⟨a4,a2,a5,a6⟩
 ·obtain⟨ob,es,ep,ho,r⟩:=hm;exact⟨ob,es,ep,k _ ob (λz=>(f _ z).2.1 rfl) ho,r⟩
 refine(I.hok b u q).stay (λc v hc z=>k c v ?_ z) (λc z=>z) λc xs z=>z;rcases hc with z|z
 ·rw[z];exact n b u q
 exact n c _ z
section
variable {X:Cx} {elts:List Expr} {k:Nat} {tpos:Pos}
end
section
variable {X:Cx}
end
end L2
namespace LZg
open PySem LZ
section
variable {prog:Program} {w:World} {A:Around} {E:A0} {s:Shared}
variable {Q:A0} {x f0 v u a:Value} {its xs ys:Array Value} {i:Nat} {c l b z i1 i2 m:Addr}
theorem m9 {t:Addr} (hc:s.heap.IsTupleIter c t i) (ht:s.heap.IsTuple t its) (hx:its[i]?=some x)
  (hQ:∀h',h'.IsTupleIter c t (i+1)->Heap.SameBut c s.heap h'->Q x { s with heap:=h' }):wpAny (model prog w) A (Builtin.SmallTypes.nextOf (.ref c)) Q E s:=by
 obtain⟨o,ho,h1,h2⟩:=id hc;obtain⟨ot,hot,_,nt,hdt⟩:=ht;unfold Builtin.SmallTypes.nextOf;refine Qa (Q7 (name:=Str.ofString "__next__") hc.typeIs F.slot_tuple_iterator_next (QZ F.slot_tuple_iterator_next hc.typeIs F.entry_tuple_iterator_next ?_ (F.args_tuple_iterator_next_1 _)));show wpAny _ _ (field (.ref c) 0 >>= _) _ _ s;refine Qa (Q6 ho h2 (x:=.ref t) rfl ?_);rw[Qq (show ¬((Value.ref t==Value.none)=true) from Qp)];show wpAny _ _ (field (.ref c) 1 >>= _) _ _ s;refine Qa (Q6 ho h2 (x:=.int i 0) rfl ?_);show wpAny _ _ (seqItems? _ >>= _) _ _ _;refine Qa (Xe hot hdt ?_);simp only[Xa,hx];refine Qa (wpAny_setField ho h2 (by simp) (Qe ⟨x,rfl,Qe (hQ _ ⟨_,Xj _ ho (Obj.isFreed_of_fields (XF h2 _)),(Obj.cls_mapFields ..).trans h1,?_⟩ (Q5 ..))⟩));rw[XF h2];simp[rawInt]
theorem qw {t:Addr} (hh:A.handled=none) (hc:s.heap.IsTupleIter c t i) (ht:s.heap.IsTuple t its) (hx:its[i]?=none)
  (hE:∀h' e,Heap.ExtBut c s.heap h'->(∃o,h'.get? e=some o/\o.cls=.type "StopIteration")->E (.ref e) { s with heap:=h' }):wpAny (model prog w) A (Builtin.SmallTypes.nextOf (.ref c)) Q E s:=by
 obtain⟨o,ho,h1,h2⟩:=id hc;obtain⟨ot,hot,_,nt,hdt⟩:=ht;unfold Builtin.SmallTypes.nextOf;refine Qa (Q7 (name:=Str.ofString "__next__") hc.typeIs F.slot_tuple_iterator_next (QZ F.slot_tuple_iterator_next hc.typeIs F.entry_tuple_iterator_next ?_ (F.args_tuple_iterator_next_1 _)));show wpAny _ _ (field (.ref c) 0 >>= _) _ _ s;refine Qa (Q6 ho h2 (x:=.ref t) rfl ?_);rw[Qq (show ¬((Value.ref t==Value.none)=true) from Qp)];show wpAny _ _ (field (.ref c) 1 >>= _) _ _ s;refine Qa (Q6 ho h2 (x:=.int i 0) rfl ?_);show wpAny _ _ (seqItems? _ >>= _) _ _ _;refine Qa (Xe hot hdt ?_);simp only[Xa,hx];refine Qa (wpAny_rule (Qa (wpAny_setField ho h2 (by simp) ?_)));refine Qa (m:=PySem.newExc (.type "StopIteration") []) ?_;simp only[PySem.newExc,newTuple];refine Qa (XR ?_ (by size_fits));refine Qa (m:=firstArgMember _ _) (wpAny_of_eq (a:=Value.none) rfl ?_);refine XR ?_ (by size_fits);simp only[raiseNew];refine Qa (wpAny_handled ?_);rw[show A.in1.handled=none from hh];exact Qa (Qe (wpAny_throw (hE _ _ (((Q5 ..).extBut.push _).push _) ⟨_,Qn _ rfl,rfl⟩)))
def SqOb:Bool->Heap->Addr->Array Value->Prop
 | true,h,l,xs=>h.IsTuple l xs
 | false,h,l,xs=>h.IsList l xs
def SqIt:Bool->Heap->Addr->Addr->Nat->Prop
 | true,h,c,l,i=>h.IsTupleIter c l i
 | false,h,c,l,i=>h.IsListIter c l i
def tF (t:Bool):String:=if t then "tuple_iterator" else "list_iterator"
variable {h h':Heap}
theorem SqIt.of {t:Bool} (g:h.get? c=some { cls:=.type (tF t),data:=.fields #[.ref l,.int i 0] }):SqIt t h c l i:=by
 cases t <;> exact⟨_,g,rfl,rfl⟩
theorem SqIt.raw {t:Bool} (x:SqIt t h c l i):∃o,h.get? c=some o/\o.data=.fields #[.ref l,.int i 0]:=by
 cases t <;> (obtain⟨o,h1,_,h3⟩:=x;exact⟨o,h1,h3⟩)
theorem SqIt.at {t:Bool} (x:SqIt t h c l i) (k:∀o,h.get? c=some o->h'.get? c=some o):SqIt t h' c l i:=by
 cases t <;> (obtain⟨o,h1,r⟩:=x;exact⟨o,k _ h1,r⟩)
theorem SqIt.extBut {t:Bool} (x:SqIt t h c l i) (hs:Heap.ExtBut b h h') (n:c≠b):SqIt t h' c l i:=x.at λo e=>hs c o n e
theorem SqOb.extBut {t:Bool} (x:SqOb t h l xs) (hs:Heap.ExtBut b h h') (n:l≠b):SqOb t h' l xs:=by
 cases t <;> (obtain⟨o,h1,r⟩:=x;exact⟨o,hs l o n h1,r⟩)
theorem SqOb.push {t:Bool} (x:SqOb t h l xs) (o:Obj):SqOb t (h.push o) l xs:=by
 cases t <;> (obtain⟨o,h1,r⟩:=x;exact⟨o,Qb _ h1,r⟩)
theorem SqOb.lt {t:Bool} (x:SqOb t h l xs):l<h.objs.size:=by
 cases t <;> (obtain⟨o,h1,r⟩:=x;exact Qo h1)
theorem tD {t:Bool} (x:SqOb t s.heap l xs) (h:Q (.ref s.heap.objs.size) { s with heap:=s.heap.push { cls:=.type (tF t),data:=.fields #[.ref l,.int 0 0] } }):wpAny (model prog w) A (pyIter (.ref l)) Q E s:=by
 cases t with
 | true=>exact wpAny_pyIter_tuple x h
 | false=>exact wpAny_pyIter_list x h
theorem oU {t:Bool} (hc:SqIt t s.heap c l i) (ht:SqOb t s.heap l its) (hx:its[i]?=some x)
  (hQ:∀h',SqIt t h' c l (i+1)->Heap.SameBut c s.heap h'->Q x { s with heap:=h' }):wpAny (model prog w) A (Builtin.SmallTypes.nextOf (.ref c)) Q E s:=by
 cases t with
 | true=>exact m9 hc ht hx hQ
 | false=>exact XU hc ht hx hQ
theorem mY {t:Bool} (hh:A.handled=none) (hc:SqIt t s.heap c l i) (ht:SqOb t s.heap l its) (hx:its[i]?=none)
  (hE:∀h' e,Heap.ExtBut c s.heap h'->(∃o,h'.get? e=some o/\o.cls=.type "StopIteration")->E (.ref e) { s with heap:=h' }):wpAny (model prog w) A (Builtin.SmallTypes.nextOf (.ref c)) Q E s:=by
 cases t with
 | true=>exact qw hh hc ht hx hE
 | false=>exact wpAny_nextOf_list_end hh hc ht hx hE
variable {f1 t1 t2:Bool}
theorem next_end {TI TO:Addr} {k:Nat} {a b:Value} {Q:Option Value->Shared->Prop} (hh:A.handled=none) (D:Apart5 z TI TO i1 i2 l)
  (hz:IsZ s.heap z TI TO f0 f1) (hf:(f0=.none/\f1=false/\∃a b,IsPair s.heap TO a b)\/∃(T:Addr) (oT:Obj),f0=rawInt (T:Nat)/\s.heap.get? T=some oT) (hTI:IsPair s.heap TI (.ref i1) (.ref i2)) (h1:SqIt t1 s.heap i1 l k) (hl:SqOb t1 s.heap l xs) (hv:xs[k]?=none)
  (hQ:∀h',(∀c o,c≠z->c≠i1->s.heap.get? c=some o->h'.get? c=some o)->Q none { s with heap:=h' }):wpAny (model prog w) A (pyNext (.ref z)) Q E s:=by
 have hTy:s.TypeIs (.ref z) "zip" := ⟨_,hz,rfl⟩;unfold pyNext
 refine Qa (wpAny_attempt (Q7 (name:=Str.ofString "__next__") hTy X1
  (QZ X1 hTy F.entry_zip_next ?_ (F.args_zip_next_1 _))))
 show wpAny _ _ (field (.ref z) 2 >>= _) _ _ _;refine Qa (Q6 hz rfl (x:=.bool false) rfl ?_);show wpAny _ _ (field (.ref z) 3 >>= _) _ _ _;refine Qa (Q6 hz rfl (x:=.ref TI) rfl ?_);refine Qa (Xe hTI rfl ?_);show wpAny _ _ (Builtin.SmallTypes.ownedTupleIsFree (.ref z) >>= _) _ _ _;refine Qa ?_;unfold Builtin.SmallTypes.ownedTupleIsFree;refine Qa (Q6 hz rfl (x:=f0) rfl ?_)
 have fin:∀h' e,(∀c o,c≠z->c≠i1->s.heap.get? c=some o->h'.get? c=some o)->(∃o,h'.get? e=some o/\o.cls=.type "StopIteration") ->
   wpAny (model prog w) A (do if <-isInstance (.ref e) (.type "StopIteration") then pure none else throw (.ref e)) Q E { s with heap:=h' }:=λh' e hk ⟨o,ho,hc⟩ =>
  Qa (wpAny_isInstance (T := "StopIteration") (b:=true) ⟨o,ho,hc⟩ isSubtype_stop (Qe (hQ _ hk)))
 rcases hf with⟨e1,e2,a,b,hTO⟩|⟨T,oT,e1,hT⟩
 ·subst e1 e2;refine Qe ?_;simp only[if_true];refine Qa (wpAny_rule ?_);refine Qa (Q6 hz rfl (x:=.ref TO) rfl ?_);refine Qa (Xk hz (by simp) λh₁ hz1 hs1=>?_)
  replace hz1:IsZ h₁ z TI TO .ellipsis false:=hz1
  refine Qa ?_;simp only[List.zipIdx_cons,List.zipIdx_nil,XH,XZ];refine Qa (Qa (wpAny_onRaise ?_));show wpAny _ _ (Builtin.SmallTypes.nextOf (.ref i1) >>= _) _ _ _;refine Qa (mY hh (h1.extBut hs1.extBut D.i1z) (hl.extBut hs1.extBut D.lz) hv λh₂ e hs₂ he=>?_);obtain⟨oe,hoe,hce⟩:=he;have hz₂:IsZ h₂ z TI TO .ellipsis false:=hs₂ _ _ D.i1z.symm hz1;have hez:e≠z:=λx=>by subst x;rw[hz₂]at hoe;cases hoe;simp at hce
  refine Xk hz₂ (by simp) λh₃ _ hs₃=>?_;exact fin h₃ e (λc o c1 c3 x=>hs₃.extBut _ _ c1 (hs₂ _ _ c3 (hs1.extBut _ _ c1 x))) ⟨oe,hs₃.extBut _ _ hez hoe,hce⟩
 subst e1;show wpAny _ _ (loadIfAlive ((T:Int).toNat) >>= _) _ _ _;rw[Xa];refine Qa (t7 hT ?_);simp only[Option.isNone_some,Qz,Xs];refine Qa (Q6 hz rfl (x:=.bool f1) rfl ?_)
 cases f1 with
 | false =>
  simp only[show (Value.bool false != Value.bool true)=true from rfl,if_true];refine Qa (Xk hz (by simp) λh₁ hz1 hs1=>Qe ?_)
  replace hz1:IsZ h₁ z TI TO (rawInt T) true:=hz1
  simp only[Qz,Xs,List.forIn_toArray,XH,XZ];refine Qa (Qa (Qa (QT ?_)));show wpAny _ _ (Builtin.SmallTypes.nextOf (.ref i1) >>= _) _ _ _;refine Qa (mY hh (h1.extBut hs1.extBut D.i1z) (hl.extBut hs1.extBut D.lz) hv λh₂ e hs₂ he=>?_);exact fin h₂ e (λc o c1 c3 x=>hs₂ _ _ c3 (hs1.extBut _ _ c1 x)) he
 | true =>
 simp only[show (Value.bool true != Value.bool true)=false from rfl,Qz,Xs];refine Qe ?_;simp only[Qz,Xs,List.forIn_toArray,XH,XZ];refine Qa (Qa (Qa (QT ?_)));show wpAny _ _ (Builtin.SmallTypes.nextOf (.ref i1) >>= _) _ _ _;refine Qa (mY hh h1 hl hv λh₂ e hs₂ he=>?_);exact fin h₂ e (λc o c1 c3 x=>hs₂ _ _ c3 x) he
theorem next_first {TI TO:Addr} {k:Nat} {b:Value} {Q:Option Value->Shared->Prop} (D:Apart5 z TI TO i1 i2 l) (mz:m≠z) (mTO:m≠TO) (mi1:m≠i1) (mi2:m≠i2)
  (hz:IsZ s.heap z TI TO .none false) (hTI:IsPair s.heap TI (.ref i1) (.ref i2)) (hTO:IsPair s.heap TO a b) (h1:SqIt t1 s.heap i1 l k) (h2:SqIt t2 s.heap i2 m k) (hl:SqOb t1 s.heap l xs) (hm:SqOb t2 s.heap m ys) (hv:xs[k]?=some v) (hc:ys[k]?=some u)
  (hQ:∀h',IsZ h' z TI TO (rawInt s.heap.objs.size) false->(∃a b,IsPair h' TO a b)->SqIt t1 h' i1 l (k+1)->SqIt t2 h' i2 m (k+1)->IsPair h' s.heap.objs.size v u->h'.objs.size=s.heap.objs.size+1 ->
   (∀c o,c≠z->c≠TO->c≠i1->c≠i2->s.heap.get? c=some o->h'.get? c=some o)->Q (some (.ref s.heap.objs.size)) { s with heap:=h' }) :
  wpAny (model prog w) A (pyNext (.ref z)) Q E s:=by
 have hT:s.TypeIs (.ref z) "zip" := ⟨_,hz,rfl⟩;unfold pyNext
 refine Qa (wpAny_attempt (Q7 (name:=Str.ofString "__next__") hT X1
  (QZ X1 hT F.entry_zip_next ?_ (F.args_zip_next_1 _))))
 show wpAny _ _ (field (.ref z) 2 >>= _) _ _ _;refine Qa (Q6 hz rfl (x:=.bool false) rfl ?_);show wpAny _ _ (field (.ref z) 3 >>= _) _ _ _;refine Qa (Q6 hz rfl (x:=.ref TI) rfl ?_);refine Qa (Xe hTI rfl ?_);show wpAny _ _ (Builtin.SmallTypes.ownedTupleIsFree (.ref z) >>= _) _ _ _;refine Qa ?_;unfold Builtin.SmallTypes.ownedTupleIsFree;refine Qa (Q6 hz rfl (x:=.none) rfl (Qe ?_));simp only[if_true];refine Qa (wpAny_rule ?_);refine Qa (Q6 hz rfl (x:=.ref TO) rfl ?_);refine Qa (Xk hz (by simp) λh₁ hz1 hs1=>?_)
 replace hz1:IsZ h₁ z TI TO .ellipsis false:=hz1
 refine Qa ?_;simp only[List.zipIdx_cons,List.zipIdx_nil,XH,XZ];refine Qa (Qa (wpAny_onRaise ?_));show wpAny _ _ (Builtin.SmallTypes.nextOf (.ref i1) >>= _) _ _ _;refine Qa (oU (h1.extBut hs1.extBut D.i1z) (hl.extBut hs1.extBut D.lz) hv λh₂ h12 hs₂=>Qe ?_);have hTO2:IsPair h₂ TO a b:=hs₂.extBut _ _ D.TOi1 (hs1.extBut _ _ D.TOz hTO);refine Qa (Xe hTO2 rfl ?_);refine Qa (wpAny_updateSeq_pair hTO2 λh₃ hTO3 hs₃=>?_)
 replace hTO3:IsPair h₃ TO v b:=hTO3
 refine Qa (wpAny_letGo (Qe ?_));refine Qa (Qa (wpAny_onRaise ?_));show wpAny _ _ (Builtin.SmallTypes.nextOf (.ref i2) >>= _) _ _ _;have h23:SqIt t2 h₃ i2 m k:=((h2.extBut hs1.extBut D.i2z).extBut hs₂.extBut D.i12.symm).extBut hs₃.extBut D.TOi2.symm;refine Qa (oU h23 (((hm.extBut hs1.extBut mz).extBut hs₂.extBut mi1).extBut hs₃.extBut mTO) hc λh₄ h24 hs4=>Qe ?_);have hTO4:IsPair h₄ TO v b:=hs4.extBut _ _ D.TOi2 hTO3;refine Qa (Xe hTO4 rfl ?_);refine Qa (wpAny_updateSeq_pair hTO4 λh₅ hTO5 hs5=>?_)
 replace hTO5:IsPair h₅ TO v u:=hTO5
 refine Qa (wpAny_letGo (Qe (Qe ?_)));refine Qa (Xe hTO5 rfl ?_);refine Qa (wpAny_newTuple ?_);have hsz:h₅.objs.size=s.heap.objs.size:=by rw[hs5.1,hs4.1,hs₃.1,hs₂.1,hs1.1]
 have hz5:IsZ h₅ z TI TO .ellipsis false:=hs5.extBut _ _ D.TOz.symm (hs4.extBut _ _ D.i2z.symm (hs₃.extBut _ _ D.TOz.symm (hs₂.extBut _ _ D.i1z.symm hz1)))
 have hk5:∀c o,c≠z->c≠TO->c≠i1->c≠i2->s.heap.get? c=some o->h₅.get? c=some o:=λc o c1 c2 c3 c4 e =>
  hs5.extBut _ _ c2 (hs4.extBut _ _ c4 (hs₃.extBut _ _ c2 (hs₂.extBut _ _ c3 (hs1.extBut _ _ c1 e))))
 have h15:SqIt t1 h₅ i1 l (k+1):=((h12.extBut hs₃.extBut D.TOi1.symm).extBut hs4.extBut D.i12).extBut hs5.extBut D.TOi1.symm;have h25:SqIt t2 h₅ i2 m (k+1):=h24.extBut hs5.extBut D.TOi2.symm;have hzlt:z<h₅.objs.size:=Qo hz5;show wpAny _ _ (Builtin.SmallTypes.ownedTupleHandOut (.ref z) (.ref h₅.objs.size) >>= _) _ _ _;refine Qa ?_;unfold Builtin.SmallTypes.ownedTupleHandOut;have hz6:IsZ (h₅.push { cls:=.type "tuple", data:=.seq #[v,u] }) z TI TO .ellipsis false:=Qb _ hz5;refine Qa (Xk hz6 (by simp) λh₇ hz7 hs7=>?_)
 replace hz7:IsZ h₇ z TI TO (rawInt h₅.objs.size) false:=hz7
 refine Xk hz7 (by simp) λh₈ hz₈ hs8=>?_
 replace hz₈:IsZ h₈ z TI TO (rawInt h₅.objs.size) false:=hz₈
 have up:∀c o,c≠z->h₅.get? c=some o->h₈.get? c=some o:=λc o c1 e=>hs8.extBut _ _ c1 (hs7.extBut _ _ c1 (Qb _ e));have hT8:IsPair h₈ h₅.objs.size v u:=hs8.extBut _ _ (X0 hzlt) (hs7.extBut _ _ (X0 hzlt) (Qn _ rfl));have hz8:h₈.objs.size=h₅.objs.size+1:=by rw[hs8.1,hs7.1,QQ]
 rw[hsz]at hz₈ hT8 hz8;refine Qe ⟨_,rfl,Qe ?_⟩;show Q (some (.ref h₅.objs.size)) _;rw[hsz];exact hQ h₈ hz₈ ⟨_,_,up _ _ D.TOz hTO5⟩ (h15.at λo e=>up _ o D.i1z e) (h25.at λo e=>up _ o D.i2z e) hT8 hz8 λc o c1 c2 c3 c4 e=>up c o c1 (hk5 c o c1 c2 c3 c4 e)
abbrev zH1 (t1:Bool) (h:Heap) (l:Addr):Heap:=h.push { cls:=.type (tF t1),data:=.fields #[.ref l,.int 0 0] }
abbrev zH2 (t1 t2:Bool) (h:Heap) (l m:Addr):Heap:=(zH1 t1 h l).push { cls:=.type (tF t2),data:=.fields #[.ref m,.int 0 0] }
abbrev zH3 (t1 t2:Bool) (h:Heap) (l m:Addr):Heap:=(zH2 t1 t2 h l m).push { cls:=.type "tuple", data:=.seq #[.ref h.objs.size,.ref (zH1 t1 h l).objs.size] }
abbrev zH4 (t1 t2:Bool) (h:Heap) (l m:Addr):Heap:=(zH3 t1 t2 h l m).push { cls:=.type "tuple", data:=.seq #[.none,.none] }
abbrev zH5 (t1 t2:Bool) (h:Heap) (l m:Addr):Heap:=(zH4 t1 t2 h l m).push { cls:=.type "zip", data:=.fields #[.none,.bool false,.bool false,.ref (zH2 t1 t2 h l m).objs.size,.ref (zH3 t1 t2 h l m).objs.size] }
theorem meets_new (t1 t2:Bool) (l m:Addr) (xs ys:Array Value) :
  Meets (Builtin.«zip.__new__» ⟨[.type "zip", .ref l,.ref m],[]⟩) (λ_ R s=>SqOb t1 s.heap l xs/\SqOb t2 s.heap m ys/\R (.ok (.ret (.ref (zH4 t1 t2 s.heap l m).objs.size))) { s with heap:=zH5 t1 t2 s.heap l m }) :=
 .of_wp λprog w A R s h=>by
  obtain⟨hp,g,d,tk,os⟩:=s;obtain⟨hl1,hl2,h⟩:=h;have hsub:=sub_zip;have hL1:SqOb t1 (Shared.heap ⟨hp,g,d,tk,os⟩) l xs:=hl1;have hL2:SqOb t2 (Shared.heap ⟨hp.push { cls:=.type (tF t1),data:=.fields #[.ref l,.int 0 0] },g,d,tk,os⟩) m ys:=hl2.push _
  wp_walk using tD hL1,tD hL2
  exact⟨_,rfl,h⟩
theorem call_zip (hl1:SqOb t1 s.heap l xs) (hl2:SqOb t2 s.heap m ys)
  (h:∀h',IsZ h' (s.heap.objs.size+4) (s.heap.objs.size+2) (s.heap.objs.size+3) .none false->IsPair h' (s.heap.objs.size+2) (.ref s.heap.objs.size) (.ref (s.heap.objs.size+1)) ->
   IsPair h' (s.heap.objs.size+3) .none .none->SqIt t1 h' s.heap.objs.size l 0->SqIt t2 h' (s.heap.objs.size+1) m 0->h'.objs.size=s.heap.objs.size+5 ->
   (∀c o,s.heap.get? c=some o->h'.get? c=some o)->Q (.ref (s.heap.objs.size+4)) { s with heap:=h' }) :
  wpAny (model prog w) A (call (.type "zip") [.ref l,.ref m]) Q E s:=by
 refine callType_new F.called_zip (by decide) (F.typeCall_zip_2 _ _) (F.newCall_zip_2 _ _) (λobj=>F.args_object_init_3 obj _ _) F.entry_zip_new (meets_new t1 t2 l m xs ys) ⟨hl1,hl2,?_⟩;have z1:(zH1 t1 s.heap l).objs.size=s.heap.objs.size+1:=QQ ..;have z2:(zH2 t1 t2 s.heap l m).objs.size=s.heap.objs.size+2:=by rw[QQ,z1]
 have z3:(zH3 t1 t2 s.heap l m).objs.size=s.heap.objs.size+3:=by rw[QQ,z2]
 have z4:(zH4 t1 t2 s.heap l m).objs.size=s.heap.objs.size+4:=by rw[QQ,z3]
 have z5:(zH5 t1 t2 s.heap l m).objs.size=s.heap.objs.size+5:=by rw[QQ,z4]
 have g5:(zH5 t1 t2 s.heap l m).get? (zH4 t1 t2 s.heap l m).objs.size=some _:=Qn _ rfl;have g4:(zH5 t1 t2 s.heap l m).get? (zH3 t1 t2 s.heap l m).objs.size=some _:=Qb _ (Qn _ rfl);have g3:(zH5 t1 t2 s.heap l m).get? (zH2 t1 t2 s.heap l m).objs.size=some _:=Qb _ (Qb _ (Qn _ rfl));have g2:(zH5 t1 t2 s.heap l m).get? (zH1 t1 s.heap l).objs.size=some _:=Qb _ (Qb _ (Qb _ (Qn _ rfl)));have g1:(zH5 t1 t2 s.heap l m).get? s.heap.objs.size=some _:=Qb _ (Qb _ (Qb _ (Qb _ (Qn _ rfl))));show _/\_;rw[z2,z3,z4]at g5;rw[z1,z2]at g3;rw[z3]at g4;rw[z1]at g2;rw[z4]
 exact⟨⟨_,g5,rfl⟩,h _ g5 g3 g4 (SqIt.of g1) (SqIt.of g2) z5 λc o x =>
  Qb _ (Qb _ (Qb _ (Qb _ (Qb _ x))))⟩
end
end LZg
namespace L2
open PySem PySem.Spec PyProof.Rows
def SqS:Bool->PySem.W.Frag->Hp->Addr->List V->Prop
 | true,K,H,a,xs=>SqT K H a xs
 | false,K,H,a,xs=>SqL K H a xs
variable {xs ys:List V} {pins:A1}
theorem Inv.sq {X:Cx} {U:St} {H:Hp} {s:Shared} (I:Inv X pins U H s) {t:Bool} {a:Addr} (h:SqS t X.K H a xs):∃its:List Value,aO xs its/\LZg.SqOb t s.heap a its.toArray/\xs.length<=sizeLine:=by
 cases t with
 | true=>obtain⟨its,r,p,z⟩:=I.tuple h;exact⟨its,r,p,z⟩
 | false=>obtain⟨its,r,p,z⟩:=I.list h;exact⟨its,r,p.isList,z⟩
theorem Inv.sq_inj {X:Cx} {U:St} {H:Hp} {s:Shared} (I:Inv X pins U H s) {t:Bool} {a:Addr} (h1:SqS t X.K H a xs) (h2:SqS t X.K H a ys):xs=ys:=by
 cases t with
 | true=>exact I.tuple_inj h1 h2
 | false=>exact I.list_inj h1 h2
noncomputable def t9 (t1 t2:Bool) (K:PySem.W.Frag) (a b:Addr):It :=
 ⟨λi H=>(∃xs x,SqS t1 K H a xs/\xs[i]?=some x)/\∃ys y,SqS t2 K H b ys/\ys[i]?=some y,λi H x H'=>∃T v u,H T=none/\x=.ref T/\H'=upd H T (.tup [v,u])/\(∀xs,SqS t1 K H a xs->xs[i]?=some v)/\∀ys,SqS t2 K H b ys->ys[i]?=some u,λi H=>∃xs,SqS t1 K H a xs/\xs.length<=i⟩
theorem pR {t1 t2:Bool} {P:Program} {w:World} {K:PySem.W.Frag} {elts:List Expr} {k:Nat} {pos:Pos} (a bb z TI TO i1 i2:Addr) (D:LZ.Apart5 z TI TO i1 i2 a) (mz:bb≠z) (mTO:bb≠TO) (mi1:bb≠i1) (mi2:bb≠i2) :
  Turn P w K (.Tuple elts k pos) (t9 t1 t2 K a bb) [z,TI,TO,i1,i2] z (λi h=>LZ.IsZ h z TI TO .none false/\IsPair h TI (.ref i1) (.ref i2)/\(∃u v,IsPair h TO u v)/\LZg.SqIt t1 h i1 a i/\LZg.SqIt t2 h i2 bb i) where
 mem:=by simp
 obj:=λi h st b hb=>by
  obtain⟨hz,hTI,⟨u,v,hTO⟩,h1,h2⟩:=st;obtain⟨o1,g1,d1⟩:=h1.raw;obtain⟨o2,g2,d2⟩:=h2.raw;simp only[Qk,Qx,Xg]at hb;rcases hb with rfl|rfl|rfl|rfl|rfl
  ·exact⟨_,hz,λv q=>by have q':Data.fields _=Data.cell v:=q;cases q'⟩
  ·exact⟨_,hTI,λv q=>by have q':Data.seq _ _=Data.cell v:=q;cases q'⟩
  ·exact⟨_,hTO,λv q=>by have q':Data.seq _ _=Data.cell v:=q;cases q'⟩
  ·exact⟨o1,g1,λv q=>by rw[d1]at q;cases q⟩
  exact⟨o2,g2,λv q=>by rw[d2]at q;cases q⟩
 keep:=λi h h' st kk=>by
  obtain⟨hz,hTI,⟨u,v,hTO⟩,h1,h2⟩:=st;exact⟨kk z (by simp) _ hz,kk TI (by simp) _ hTI,⟨u,v,kk TO (by simp) _ hTO⟩,h1.at λo e=>kk i1 (by simp) o e,h2.at λo e=>kk i2 (by simp) o e⟩
 item:=by
  intro X hP hw hK hc i pins s U H E I hf st hg;subst hP hw hK;obtain⟨⟨xs,y,hq,hx⟩,ys,y2,hq2,hx2⟩:=hg;obtain⟨its,rv,p,hsz⟩:=I.sq hq;obtain⟨u,hu,ru⟩:=rv.get hx;obtain⟨its2,rv2,p2,hsz2⟩:=I.sq hq2;obtain⟨u2,hu2,ru2⟩:=rv2.get hx2;obtain⟨hz,hTI,⟨a0,b0,hTO⟩,h1,h2⟩:=st;refine LZg.next_first D mz mTO mi1 mi2 hz hTI hTO h1 h2 p p2 (v:=u) (u:=u2) (by simpa using hu) (by simpa using hu2) λh' b1 b2 b3 b4 b5 b6 b7=>⟨_,rfl,?_⟩;refine wpAny_letOwnedTupleGo_zip (T:=s.heap.objs.size) b1 λh2' c1 c2=>?_
  have szT:∀c∈[z,TI,TO,i1,i2],c≠s.heap.objs.size:=λc hc=>by
   have:∃o,s.heap.get? c=some o:=by
    simp only[Qk,Qx,Xg]at hc;obtain⟨o1,g1,_⟩:=h1.raw;obtain⟨o2,g2,_⟩:=h2.raw;rcases hc with rfl|rfl|rfl|rfl|rfl
    ·exact⟨_,hz⟩
    ·exact⟨_,hTI⟩
    ·exact⟨_,hTO⟩
    ·exact⟨_,g1⟩
    exact⟨_,g2⟩
   obtain⟨o,e⟩:=this;exact QF (Qo e)
  have zT:z≠s.heap.objs.size:=szT z (by simp)
  have keep2:∀b o,b∉[z,TI,TO,i1,i2]->s.heap.get? b=some o->h2'.get? b=some o:=λb o nb q=>by
   simp only[Qk,Qx,Xg,not_or]at nb;exact c2.extBut b o nb.1 (b7 b o nb.1 nb.2.2.1 nb.2.2.2.1 nb.2.2.2.2 q)
  have kp:∀{b o},b≠z->h'.get? b=some o->h2'.get? b=some o:=λnb q=>c2.extBut _ _ nb q;have tup2:h2'.get? s.heap.objs.size=some _:=kp (Ne.symm zT) b5
  have I2:Inv X pins U (upd H s.heap.objs.size (.tup [y,y2])) { s with heap:=h2',toks:=s.toks } :=
   I.turnedL (ch:=[z,TI,TO,i1,i2]) keep2 hf (Qj _) ⟨(by show 2<=sizeLine;decide),[u,u2],.cons ru (.cons ru2 .nil),⟨_,tup2,rfl,_,rfl⟩⟩
  obtain⟨a1,b1',b2'⟩:=b2;refine⟨.ref s.heap.objs.size,_,I2,rfl,⟨s.heap.objs.size,y,y2,I.hok.fresh (Qj _),rfl,rfl,λys hy=>by rw[I.sq_inj hy hq];exact hx,λys hy=>by rw[I.sq_inj hy hq2];exact hx2⟩,⟨c1,?_,⟨a1,b1',?_⟩,?_,?_⟩,λb hb=>?_⟩
  ·exact kp D.TIz (b7 TI _ D.TIz D.TITO D.TIi1 D.TIi2 hTI)
  ·exact kp D.TOz b2'
  ·exact b3.at λo e=>kp D.i1z e
  ·exact b4.at λo e=>kp D.i2z e
  rw[aq (szT b hb)];exact(hf b hb).1
 done:=by
  intro X hP hw hK hc i pins s U H E I hf st hg;subst hP hw hK;obtain⟨xs,hq,hx⟩:=hg;obtain⟨its,rv,p,hsz⟩:=I.sq hq;obtain⟨hz,hTI,hTO,h1,h2⟩:=st;have hlen:=rv.length;refine LZg.next_end (a:=.none) (b:=.none) (I.ok.hd hc) D hz (.inl ⟨rfl,rfl,hTO⟩) hTI h1 p (by simp;omega) λh' eb=>⟨rfl,?_⟩
  exact I.turnedE (t':=s.toks) (ch:=[z,TI,TO,i1,i2]) (λb o nb q=>by
   simp only[Qk,Qx,Xg,not_or]at nb
   exact eb b o nb.1 nb.2.2.2.1 q) hf
 self:=λ_ _ _ _ _ st h=>wpAny_pyIter_zip st.1 h
section
variable {X:Cx} {elts:List Expr} {k:Nat} {tpos:Pos}
def ym (K:PySem.W.Frag) (ta:TA):TI:=λU H R=>ta U H λvs H1=>∃a b t1 t2,vs=[.ref a,.ref b]/\(∃xs,SqS t1 K H1 a xs)/\(∃ys,SqS t2 K H1 b ys)/\R (t9 t1 t2 K a b) H1
theorem oM {a b:Expr} {ta:TA} {p pos:Pos} (hg:Gl X "zip") (hm:X.mg "zip" = none) (ha:PA X [a,b] ta) (hs:starEach [a,b] X.env=[(false,eval a X.env),(false,eval b X.env)]:=by rfl) (hs2:starEach [b] X.env=[(false,eval b X.env)]:=by rfl):PI X (.Tuple elts k tpos) (.Call (.Name "zip" p) [a,b] [] pos) (ym X.K ta):=by
 intro pins s U H R I h;refine Call_ (cr I hg hm boot_zip (Q9 (thn (ha pos pins s U H _ I h) λus s1 ⟨vs,H1,I1,r1,q1⟩=>?_) (by rw[hs,hs2]) (by rw[hs2];rfl)));obtain⟨l,m,t1,t2,e,⟨xs,hq⟩,⟨ys,hq2⟩,q⟩:=q1;subst e;obtain⟨u1,u2,eu,r3,r2⟩:=kD r1;subst eu;cases (show u1=Value.ref l from r3);cases (show u2=Value.ref m from r2)
 have frs:∀b∈[s1.heap.objs.size+4,s1.heap.objs.size+2,s1.heap.objs.size+3,s1.heap.objs.size,s1.heap.objs.size+1],s1.heap.objs.size<=b:=λb hb=>by
  simp only[Qk,Qx,Xg]at hb;rcases hb with rfl|rfl|rfl|rfl|rfl
  ·exact QP _ _
  ·exact QP _ _
  ·exact QP _ _
  ·exact Qj _
  exact QP _ _
 obtain⟨its,rv,pl,hz⟩:=I1.sq hq;obtain⟨its2,rv2,pl2,hz2⟩:=I1.sq hq2;refine LZg.call_zip pl pl2 λh' b1 b2 b3 b4 b5 b6 b7=>?_;refine wpAny_pyIter_zip b1 ?_;have I2:Inv X pins U H1 { s1 with heap:=h' }:=I1.kept (t':=s1.toks) b7;have ll:@LT.lt Nat _ l s1.heap.objs.size:=pl.lt;have lm:@LT.lt Nat _ m s1.heap.objs.size:=pl2.lt;refine⟨s1.heap.objs.size+4,[s1.heap.objs.size+4,s1.heap.objs.size+2,s1.heap.objs.size+3,s1.heap.objs.size,s1.heap.objs.size+1],_,_,H1,rfl,I2,pR l m (s1.heap.objs.size+4) (s1.heap.objs.size+2) (s1.heap.objs.size+3) s1.heap.objs.size (s1.heap.objs.size+1) ?_ (by show @Ne Nat _ _;omega) (by show @Ne Nat _ _;omega) (by show @Ne Nat _ _;omega) (by show @Ne Nat _ _;omega),⟨b1,b2,⟨_,_,b3⟩,b4,b5⟩,λb hb=>I1.fpOk (frs b hb) (I1.hok.fresh (frs b hb)),q⟩
 constructor <;> (show @Ne Nat _ _;omega)
end
theorem tU {a:Nat} (h:a<=xs.length):j4 xs (some (a:Int)) none=xs.drop a:=by
 unfold j4;rw[HT.oB,HT.lc,Nat.min_eq_left h,Xc (by rw[XI];exact om1)]
theorem xv {a:Nat} (h:a<=xs.length):j4 xs none (some (a:Int))=xs.take a:=by
 unfold j4;rw[HT.oB,HT.lc,Nat.min_eq_left h];simp
theorem tP {x:V} (h:bZ x=true):eqV x x=true:=by
 cases x <;> first|(simp[eqV];done)|(simp[bZ]at h;done)|simp_all [eqV,bZ]
theorem iz (n:Nat):((List.range n).all λ_=>true)=true:=Xb.mpr λ_ _=>rfl
section
variable {K:PySem.W.Frag} {H:Hp} {Q:VK}
variable {n:Nat}
theorem d4 {x:V} (h:bZ x=true):EqD K H n x x true:=by
 have q:=EqD.flat (K:=K) (H:=H) (n:=n) h h;rwa [tP h]at q
variable {xs ys:List V} {a b l:Addr}
theorem lV (h1:SqL K H a xs) (h2:SqL K H b ys) (hl:xs.length=ys.length) (hi:∀(j:Nat) x y,xs[j]?=some x->ys[j]?=some y->EqD K H n x y true):EqD K H (n+1) (.ref a) (.ref b) true:=by
 by_cases e:a=b
 ·subst e;exact .same
 have q:=EqD.lists (e:=λ_=>true) h1 h2 hl hi e;rwa [iz]at q
theorem jZ (h1:SqT K H a xs) (h2:SqT K H b ys) (hl:xs.length=ys.length) (hi:∀(j:Nat) x y,xs[j]?=some x->ys[j]?=some y->EqD K H n x y true):EqD K H (n+1) (.ref a) (.ref b) true:=by
 by_cases e:a=b
 ·subst e;exact .same
 have q:=EqD.tups (e:=λ_=>true) h1 h2 hi e;rw[iz,hl,Bool.true_and,beq_self_eq_true]at q;exact q
theorem eE (f:xs.all bZ=true):∀(j:Nat) x y,xs[j]?=some x->xs[j]?=some y->EqD K H n x y true:=λj x y e1 e2=>by
 rw[e1]at e2;cases e2;exact d4 (Xb.mp f x (Ql e1))
theorem tH (h1:SqL K H a xs) (h2:SqL K H b ys) (hl:xs.length=ys.length) (hi:∀(j:Nat) x y,xs[j]?=some x->ys[j]?=some y->EqD K H 8 x y true) (q:Q (.bl false) H):uu K true (.ref a) (.ref b) H Q:=by
 refine⟨a,b,xs,ys,λ_=>true,rfl,rfl,h1,h2,hi,?_⟩;rw[iz,hl,beq_self_eq_true];exact q
theorem tG (h1:SqT K H a xs) (h2:SqT K H b ys) (hl:xs.length=ys.length) (hi:∀(j:Nat) x y,xs[j]?=some x->ys[j]?=some y->EqD K H 8 x y true) (q:Q (.bl false) H):mT K true (.ref a) (.ref b) H Q:=by
 refine⟨a,b,xs,ys,λ_=>true,rfl,rfl,h1,h2,hi,?_⟩;rw[iz,hl,beq_self_eq_true];exact q
theorem oE {R:Bool->Hp->Prop} {U:St} (hl:H l=some (.lst xs)) (q:∀H',ak H H'->R (decide (xs.length=0)) H'):ww pW U H λy H2=>uu K false (.ref l) y H2 λx H'=>∃k,x=.bl k/\R k H':=by
 refine i_lst (bf ⟨by simp[sizeLine],λp hp=>?_⟩);refine⟨l,p,xs,[],λ_=>true,rfl,rfl,SqL.of (aC hp _ _ hl),SqL.of ah,λj x y _ e=>by simp at e,_,rfl,?_⟩
 have e:(if false=true then !(xs.length==([]:List V).length&&(List.range xs.length).all λ_=>true) else (xs.length==([]:List V).length&&(List.range xs.length).all λ_=>true))=decide (xs.length=0):=by
  rw[Qq Qp,iz,Bool.and_true];rfl
 rw[e];exact q _ (aC hp)
end
section
variable {X:Cx}
def rS (T:Addr):R2:=λx y H Q=>x=.ref T/\((y=.str "+" /\ Q (.str "0") H)\/(y=.str "-" /\ Q (.str "1") H))
theorem xi {T:Addr} (hT:gt X.K T [("+", .flat (.str "0")),("-", .flat (.str "1"))]):IxR X (rS T):=by
 intro value slice pins s U H x y v u Q I rx ry h hs;obtain⟨e1,h⟩:=h;subst e1;cases rx;have here:KTD.Here X.base s.heap T [("+", .flat (.str "0")),("-", .flat (.str "1"))]:=⟨KTD.text_of_look (get:=λa=>X.K.lookup a) (λa o e=>I.mod.kin a o e) hT,I.bk⟩;rcases h with⟨e,q⟩|⟨e,q⟩
 ·subst e;obtain⟨t,e⟩:=ry;subst e;refine KTD.item_textA here (by rfl) (by decide +kernel) ?_ hs;have e:decide (("+" : Str) = "+")=true:=by decide +kernel
  simp only[KTD.EachL,e,if_true];exact λt=>⟨.str "0", H,I.tok _,⟨_,rfl⟩,q⟩
 subst e;obtain⟨t,e⟩:=ry;subst e;refine KTD.item_textA here (by rfl) (by decide +kernel) ?_ hs;have e:decide (("-" : Str) = "+")=false:=by decide +kernel
 simp only[KTD.EachL,e,Qz,Xs];exact λ_ t=>⟨.str "1", H,I.tok _,⟨_,rfl⟩,q⟩
end
section
variable {X:Cx} {scope:Scope} {tgs:List Str} {cap:List (Str × Nat)}
theorem lg {j:Nat} {x:Str} {pos' spos:Pos} {elt tg iter:Expr} {ifs:List Expr} {pos:Pos} {wi:TI} {g:TG} {tt:TT} {te:TE} (hN:X.N.Nodup) (hj:X.N[j]?=some x) (hx:Loc X.env.scope x) (hc:X.calm=true) (B:BlockOk X scope tgs cap) (hi:PI X tg iter wi)
  (hg:∀C s H fp,PG (X.block (tgs++cap.map (·.1)) scope C s H fp) tg g) (ht:∀C s H fp,vz (X.block (tgs++cap.map (·.1)) scope C s H fp) ifs tt) (he:∀C s H fp,PE (X.block (tgs++cap.map (·.1)) scope C s H fp) elt te)
  (hs:∀x,foldedSetIterable iter X.env x=pure x:=by intro _;rfl) (hsw:swapsWith (.ListComp elt [⟨tg,iter,ifs,0⟩] scope pos) (some (.Name x pos')) spos.line X.env=pure true:=by rfl)
  (hf:X.fn x=true\/X.env.scope.names.lookup x=some .local:=by z_go):PS X (.Assign [.Name x pos'] (.ListComp elt [⟨tg,iter,ifs,0⟩] scope pos) spos) (rB (fW wi g tt te (bu tgs cap)) (dw j)):=by
 intro pins s U H D I h;rw[exec_Assign_Name_used _ _ _ _ hsw];refine Qa (wpAny_standAt (Qa ?_));show wpAny _ _ (comprehension _ _ _ _ _ _ _ _ >>= _) _ _ _;refine Qa (thn (Q:=λ_ s'=>SP X pins D .next s') ?_ λ_ s' q=>Qe (Qe q));refine wpAny_comprehension_free (use:=some (assign (.Name x pos') X.env)) rfl hs (iu (B.cellAt I.ok)) B.kind B.locs (thn (hi pins s U H _ I h) λv s1 h1=>thn h1 λitv s2 h2=>?_);obtain⟨it,fp,tn,J,H2,e,I2,T,st2,f2,q⟩:=h2;subst e;have lt2:∀b∈fp,b<s2.heap.objs.size:=λb hb=>let ⟨o,e,_⟩:=T.obj _ _ st2 b hb;Qo e;have hD:H2 s2.heap.objs.size=none:=I2.hok.fresh (Qj _);obtain⟨W,⟨m0,w0⟩,turn⟩:=q s2.heap.objs.size hD;refine XR ?_;have I3:Inv X pins U (upd H2 s2.heap.objs.size (.lst [])) { s2 with heap:=s2.heap.push { cls:=.type "list", dict:=none,data:=.seq ([]:List Value).toArray } }:=I2.lnew (t':=s2.toks) (ys:=[]) (its:=[]) .nil (QU _);have st3:tn 0 (s2.heap.push { cls:=.type "list", dict:=none,data:=.seq ([]:List Value).toArray }):=T.keep _ _ _ st2 λb _ o e=>Qb _ e;have nD:∀b∈fp,b≠s2.heap.objs.size:=λb hb=>QF (lt2 b hb);have f3:∀b∈fp,d6 X pins (upd H2 s2.heap.objs.size (.lst [])) b:=λb hb=>⟨by rw[aq (nD b hb)];exact(f2 b hb).1,(f2 b hb).2⟩;generalize hs3:({ s2 with heap:=s2.heap.push { cls:=.type "list", dict:=none,data:=.seq ([]:List Value).toArray } }:Shared)=s3 at I3 st3 ⊢;have st3':tn 0 s3.heap:=by rw[<-hs3];exact st3
 have lt3:∀b∈fp,b<s3.heap.objs.size:=λb hb=>let ⟨o,e,_⟩:=T.obj _ _ st3' b hb;Qo e;generalize hH3:upd H2 s2.heap.objs.size (.lst [])=H3 at I3 f3 w0;generalize s2.heap.objs.size=DD at *;refine wpAny_newFunctionEnv B.noc (by intro y hy;simp at hy) (λh1 hns hsb=>?_) B.kind;have old:∀b o,s3.heap.get? b=some o->h1.get? b=some o:=λb o e=>hsb.extBut b o (QF (Qo e)) (Qb _ e);have I4:=Inv.enter (tk:=s3.toks+([]:List (Str × Value)).length) (h1:=h1) B I3 f3 lt3 hns old;have st4:tn 0 h1:=T.keep _ _ _ st3' λb _ o e=>old b o e
 have fpB:∀{H':Hp},(∀b∈fp,H' b=none)->∀b∈fp,d6 (X.block (tgs++cap.map (·.1)) scope s3.heap.objs.size s3 H3 fp) [] H' b:=λ{H'} hn b hb =>
  ⟨hn b hb,QF (lt3 b hb),I4.ok.exfs b hb,.inl hb,λx c e=>(I4.ok.exf b hb).2 x c e,λp hp=>absurd (show p∈([]:A1) from hp) (by simp)⟩
 have loop:codeAny (model X.prog X.w) X.A (.compLoop (.ListComp elt [⟨tg,iter,ifs,0⟩] scope pos) 0 (.ref it) (.ref DD) (compEnvC scope (cy X.env scope.names []) s3.heap.objs.size X.env))
   (compPost (model X.prog X.w) X.A X.xe (some (assign (.Name x pos') X.env)) (λ_ s'=>SP X pins D .next s') (.ref DD) s3.heap.objs.size) { s3 with heap:=h1,toks:=s3.toks+([]:List (Str × Value)).length }:=by
  refine ft (λn s'=>∃i H' ys,Inv (X.block (tgs++cap.map (·.1)) scope s3.heap.objs.size s3 H3 fp) [] (bu tgs cap U) H' s'/\tn i s'.heap/\(∀b∈fp,H' b=none)/\W i n H' ys) ?_ m0 ⟨0,H3,[],I4,st4,λb hb=>(f3 b hb).1,w0⟩;rintro n s5 ⟨i,H5,ys,I5,st5,fr5,w5⟩;obtain⟨hl,ht5⟩:=turn i n H5 ys w5;rcases ht5 with⟨stop,qd⟩|⟨go,step⟩
  ·refine thn (T.done (X.block (tgs++cap.map (·.1)) scope s3.heap.objs.size s3 H3 fp) rfl rfl rfl hc i [] s5 _ H5 _ I5 (fpB fr5) st5 stop) λr s6 ⟨hr,I6⟩=>?_;subst hr;obtain⟨m6,n6,_⟩:=I6.loc;have IO:Inv X pins U H5 s6:=Inv.leave (h2:=s6.heap) I3 f3 I6 ⟨rfl,λ_ _=>rfl⟩;have fC:d6 X pins H5 s3.heap.objs.size:=⟨I6.free,(I3.fpOk (Qj _) (I3.hok.fresh (Qj _))).2⟩;obtain⟨f0,f1,f2',f3',f4,f5⟩:=fC;refine wpAny_assign_Name (iR IO hN hj hx (show aU (.ref DD) (.ref DD) from rfl) (λs7 I7 ⟨a,sb,ha⟩=>?_) hf)
   have na:s3.heap.objs.size≠a:=by
    rcases ha with z|z
    ·rw[z];exact f1
    exact λy=>f4 x a z y.symm
   obtain⟨o6,es6,ep6,ho6,r6⟩:=n6;refine⟨m6,⟨o6,es6,ep6,(sb.2 _ na).trans ho6,r6⟩,λh' hs'=>⟨_,H5,I7.turned (t':=s7.toks) (λb o hb q=>(hs'.2 b hb).trans q) f0 f1 f3' f4 f5,qd⟩⟩
  refine thn (T.item (X.block (tgs++cap.map (·.1)) scope s3.heap.objs.size s3 H3 fp) rfl rfl rfl hc i [] s5 _ H5 _ I5 (fpB fr5) st5 go) λr s6 ⟨u,hr,h6⟩=>?_;subst hr;refine thn h6 λ_ s7 ⟨x,H7,I7,r7,y7,st7,fr7⟩=>?_;have I7':=I7.pinned (fpB fr7) (T.obj _ _ st7)
  have again:∀{σ8:St} {H8:Hp} {s8:Shared} {ys8:List V},Inv (X.block (tgs++cap.map (·.1)) scope s3.heap.objs.size s3 H3 fp) ([]++fH fp s7.heap) σ8 H8 s8->wk (bu tgs cap U) σ8->(∃m',m'<n/\W (i+1) m' H8 ys8) ->
    ∃m,m<n/\∃i H' ys,Inv (X.block (tgs++cap.map (·.1)) scope s3.heap.objs.size s3 H3 fp) [] (bu tgs cap U) H' s8/\tn i s8.heap/\(∀b∈fp,H' b=none)/\W i m H' ys:=λ{σ8 H8 s8 ys8} I8 k8 ⟨m',hm,w8⟩=>by
   refine⟨m',hm,i+1,H8,ys8,I8.unpinned.weak (jw k8) (jx k8),T.keep _ _ _ st7 λb hb o e=>(I8.pin (b,o) (QC _ (QC _ (cB hb e)))).1,λb hb=>?_,w8⟩;obtain⟨o,e,d⟩:=T.obj _ _ st7 b hb;exact(I8.pin (b,o) (QC _ (QC _ (cB hb e)))).2.1
  refine thn (hg _ _ _ _ _ s7 _ H7 x u _ I7' r7 (step x H7 y7)) λ_ s8 ⟨σ8,H8,I8,k8,q8⟩=>?_;refine thn (ht _ _ _ _ _ s8 σ8 H8 _ I8 q8) λok s9 ⟨H9,I9,q9⟩=>?_
  cases ok with
  | false =>
   rw[Qq Qp]at q9 ⊢;exact again I9 k8 q9
  | true =>
  rw[Qs rfl]at q9 ⊢;refine thn (he _ _ _ _ _ s9 σ8 H9 _ I9 q9) λy sA ⟨yv,HA,IA,rA,hA,zA,qA⟩=>?_;exact thn (br _ sA σ8 HA (.ref DD) [yv] (.ref DD) [y] (λv H'=>v=.non/\∃m',m'<n/\W (i+1) m' H' (ys++[yv])) IA rfl (.cons rA .nil) ⟨DD,ys,yv,rfl,rfl,hA,zA,rfl,qA⟩) λ_ sB ⟨_,HB,IB,_,_,qB⟩=>again IB k8 qB
 exact codeAny_compStart_list loop (T.self _ 0 _ _ _ st4 loop)
end
end L2
namespace LS
open PySem PySem.Spec PyProof.Rows
def met (g:Nat->Str):Nat->List Str
 | 0=>[]
 | i+1=>if g i∈met g i then met g i else met g i++[g i]
theorem jL (g:Nat->Str):∀i,(met g i).length<=i
 | 0=>Qj _
 | i+1=>by
  have q:=jL g i;show (if g i∈met g i then met g i else met g i++[g i]).length<=i+1
  split
  ·omega
  simp;omega
theorem jK (g:Nat->Str) (x:Str):∀i,x∈met g i↔∃j,j<i/\g j=x
 | 0=>by simp[met]
 | i+1=>by
  have q:=jK g x i
  have e:x∈met g (i+1)↔x∈met g i\/x=g i:=by
   show x∈(if g i∈met g i then met g i else met g i++[g i])↔_;by_cases h:g i∈met g i
   ·rw[Qs h];exact⟨.inl,λz=>z.elim id λz=>z▸h⟩
   rw[Qq h];simp
  rw[e,q]
  constructor
  ·rintro(⟨j,a,b⟩|a)
   ·exact⟨j,by omega,b⟩
   exact⟨i,by omega,a.symm⟩
  rintro⟨j,a,b⟩;rcases Nat.lt_succ_iff_lt_or_eq.mp a with c|c
  ·exact .inl ⟨j,c,b⟩
  subst c;exact .inr b.symm
theorem u7 {g:Nat->Str} {n:Nat} (h:n+1<scanBound):∀i,i<n->(met g i).length+1<scanBound:=λi hi=>by have:=jL g i;omega
section
variable {prog:Program} {w:World} {A:Around} {R:Result->Shared->Prop} {I S:Addr} {fp wr:A3} {G:Array GenState->Array GenState->Prop} {n:Nat} {P:Nat->Value->Prop} {St:Nat->Shared->Prop}
abbrev fZ (prog:Program) (w:World) (h:Heap) (S:Addr) (g:Nat->Str) (i:Nat):Prop:=cL prog w h S (λx=>decide (x∈met g i)) (met g i).length
theorem fZ.at {h h':Heap} {g:Nat->Str} {i:Nat} (q:fZ prog w h S g i) (k:∀o,h.get? S=some o->h'.get? S=some o):fZ prog w h' S g i:=by
 obtain⟨o,es,ep,t,e,r⟩:=q;exact⟨o,es,ep,t,k _ e,r⟩
theorem set_loop (W:WalksS prog w A.in1 I fp wr G n P St) (nS:S∉fp) (g:Nat->Str) (hg:∀i v,P i v->∃t,v=.str (g i) t) (hb:∀i,i<n->(met g i).length+1<scanBound) :
  ∀(m i:Nat) (s:Shared),n-i=m->i<=n->St i s->fZ prog w s.heap S g i->(∀s',Moved (S::wr) G s s'->fZ prog w s'.heap S g n->R (.ok (.ret .none)) s') ->
   codeAny (model prog w) A (.builtin "set.update.loop" ⟨[.ref S,.ref I],[]⟩) R s:=by
 have nW:S∉wr:=λz=>nS (W.sub _ z);have more:∀b∈wr,b∈S::wr:=λb z=>Qu _ z;intro m
 induction m with
 | zero =>
  intro i s em hi st q fin;obtain rfl:i=n:=by omega
  refine XB F.entry_set_update_loop ?_;rw[Xp X4 _];show wpAny _ A.in1 (pyNext (.ref I) >>= _) _ _ s;exact Qa (W.done s _ _ st λs1 mv=>Qe (fin s1 (mv.mono more) (q.at λo e=>mv.heap S _ nW e)))
 | succ m ih =>
 intro i s em hi st q fin;have lt:i<n:=by omega
 refine XB F.entry_set_update_loop ?_;rw[Xp X4 _];show wpAny _ A.in1 (pyNext (.ref I) >>= _) _ _ s;refine Qa (W.item i s _ _ lt st λv s1 hP st1 mv=>?_);obtain⟨t,rfl⟩:=hg i v hP;have q1:=q.at λo e=>mv.heap S _ nW e;show wpAny _ A.in1 (holding [Value.str (g i) t] (setAdd S (.str (g i) t)) >>= _) _ _ s1;refine Qa (QT ?_);unfold setAdd;refine QT (Qa ((strKind prog w).pyHash (k:=g i) (strKind_is _ _ _ _) ?_));have room:=hb i lt;refine vn (s:={ s1 with toks:=s1.toks+1 }) q1 room λh2 _ sb q2=>?_
 have q3:fZ prog w h2 S g (i+1):=by
  refine cL.congr q2 (λx=>?_) ?_
  ·show (decide (x∈met g i) || decide (x=g i))=decide (x∈(if g i∈met g i then met g i else met g i++[g i]));by_cases z:g i∈met g i
   ·rw[Qs z];by_cases y:x=g i
    ·subst y;simp[z]
    simp[y]
   rw[Qq z];simp
  show (if decide (g i∈met g i)=true then _ else _)=(if g i∈met g i then met g i else met g i++[g i]).length;by_cases z:g i∈met g i
  ·simp[z]
  simp[z]
 refine Qe ⟨plainId_quiet X4 _,ih (i+1) _ (by omega) lt (W.frame _ s1 _ _ st1 (XX _) λb z o e=>?_) q3 λs3 mv3 q4=>?_⟩
 ·rw[sb.2 b (λy:b=S=>nS (by rw[<-y];exact z))];exact e
 refine fin s3 (Moved.trans W.gtrans ((mv.mono more).then_heap (XX _) λb o z e=>?_) mv3) q4;rw[sb.2 b (λy:b=S=>z (by rw[y];exact Xu))];exact e
end
section
variable {prog:Program} {w:World} {A:Around} {E:A0} {s:Shared}
theorem j5 {l:Addr} {its:Array Value} {g:Nat->Str} {Q:A0} (hh:A.handled=none) (hl:s.heap.IsList l its) (hi:∀(i:Nat) (v:Value),its[i]?=some v->∃t,v=.str (g i) t) (hb:∀i,i<its.size->(met g i).length+1<scanBound)
  (h:∀(h1:Heap) (tk:Nat),fZ prog w h1 s.heap.objs.size g its.size->(∀b o,s.heap.get? b=some o->h1.get? b=some o)->Q (.ref s.heap.objs.size) { s with heap:=h1,toks:=tk }) :
  wpAny (model prog w) A (call (.type "set") [.ref l]) Q E s:=by
 obtain⟨cl,tl,mro⟩:=XG.mro;have y1:=XG.made;have y2:=XG.sub;refine wpAny_call (codeAny_of_tree ?_);show wpAny _ _ (callAny (.type "set") ⟨[.ref l],[]⟩) _ _ _;refine Qe ⟨Code.quiet_builtin _ (by decide +kernel),XB F.entry_type_call ?_⟩;rw[Around.under_plain (weight_type_call_type "set" [.ref l] []) rfl];have y3:=XG.notType;have y4:=XG.canCreate;have y5:=F.typeCall_set_1 (.ref l)
 repeat (any_goals (first|assumption|wp_step))
 refine codeAny_mono (l7 (.ref l) (E:=E) (Q₁:=λv s1=>∃led:Bool,led=!(w.params.followText "set-order")/\v=.ref s.heap.objs.size/\s1={ s with heap:=s.heap.push (bare led) }) ⟨_,rfl,rfl,rfl⟩) λr s1 hr=>?_
 cases r with
 | error e=>exact hr
 | ok fl =>
 cases fl with
 | ret obj =>
  obtain⟨led,hled,rfl,rfl⟩:=hr;have hS:(s.heap.push (bare led)).get? s.heap.objs.size=some (bare led):=Qn _ rfl;have hT:Shared.TypeIs { s with heap:=s.heap.push (bare led) } (.ref s.heap.objs.size) "set" := ⟨_,hS,rfl⟩;have y6:=XG.init.lookup;have y7:=XG.init.bind (.ref s.heap.objs.size)
  repeat (any_goals (first|assumption|wp_step))
  refine codeAny_mono (codeAny_call_builtin (R:=wants (λv s2=>v=.none/\∃h1 tk,s2={ s with heap:=h1,toks:=tk }/\fZ prog w h1 s.heap.objs.size g its.size/\∀b o,s.heap.get? b=some o->h1.get? b=some o) E) XG.init.plain F.entry_set_init (check_set_init_1 hT ?_)) λr2 s2 hr2=>?_
  ·obtain⟨ol,hol,hcl,nl,hdl⟩:=hl;obtain⟨ocls,odict,odata,oslots⟩:=ol;simp only at hcl hdl;subst hcl;subst hdl;have hol1:(s.heap.push (bare led)).get? l=some { cls:=.type "list", dict:=odict,data:=.seq its nl,slots:=oslots }:=Qb _ hol;have y8:=F.sub_list_set;have y9:=F.sub_list_frozenset;have y0:(Value.type "list" == Value.type "dict")=false:=by decide
   have hl1:(s.heap.push (bare led)).IsList l its:=⟨_,hol1,rfl,nl,rfl⟩;unfold Builtin.«set.__init__» noKeywords Builtin.Frozenset.updateFrom;generalize hPI:pyIter=PI
   wp_walk
   subst hPI;refine wpAny_pyIter_list hl1 ?_;refine Qa (wpAny_runValue ?_);have lS:l<s.heap.objs.size:=Qo hol
   have nI:l≠(s.heap.push (bare led)).objs.size:=by
    rw[QQ];exact QF (Nat.lt_succ_of_lt lS)
   have nF:s.heap.objs.size∉[(s.heap.push (bare led)).objs.size,l]:=by
    rw[QQ];simp only[Qk,QB,Qx,Xg,not_or];exact⟨QF (Nat.lt_succ_self _),X0 lS⟩
   refine set_loop ((Walks.list (show A.in1.in1.in1.handled=none by simp[hh]) _ l nI its).toS) nF g hi hb (its.size-0) 0 _ (by omega) (QU _) ⟨⟨_,Qn _ rfl,rfl,rfl⟩,(hl1.push _)⟩ ?_ λs3 mv q=>?_
   ·have e:((s.heap.push (bare led)).push { cls:=.type "list_iterator", data:=.fields #[.ref l,.int 0 0] }).get? s.heap.objs.size=some (bare led):=Qb _ hS;exact cL.congr (cL.bare (by rw[e,hled])) (λ_=>by simp[met]) rfl
   obtain⟨h3,g3,d3,tk3,os3⟩:=s3;obtain rfl:g3=s.gens:=mv.gens;obtain rfl:d3=s.drawn:=mv.drawn;obtain rfl:os3=s.os:=mv.os;show wpAny _ _ _ _ _ _;refine Qe ?_;show wpAny _ _ (ret Value.none) _ _ _;refine Qe ⟨rfl,h3,tk3,rfl,q,λb o e=>?_⟩;have lb:=Qo e;have z1:b≠s.heap.objs.size:=QF lb
   have z2:b≠(s.heap.push (bare led)).objs.size:=by
    rw[QQ];exact QF (Nat.lt_succ_of_lt lb)
   exact mv.heap b o (by simp only[Qk,QB,Qx,Xg,not_or];exact⟨z1,z2⟩) (Qb _ (Qb _ e))
  cases r2 with
  | error e=>exact hr2
  | ok fl2 =>
  cases fl2 with
  | ret r =>
   obtain⟨rfl,h1,tk,rfl,q,k⟩:=hr2
   repeat (any_goals (first|assumption|wp_step))
   exact h _ _ q k
  | _=>exact hr2.elim
 | _=>exact hr.elim
end
end LS
namespace L2
open PySem PySem.Spec PyProof.Rows
def pP (ts:List Str):Nat:=(LS.met (λi=>ts.getD i Str.empty) ts.length).length
section
variable {X:Cx} {a:Expr} {ta:TA} {p p1 pos pos1:Pos}
def nX (K:PySem.W.Frag) (ta:TA):TE:=λU H Q=>ta U H λvs H1=>∃l ts,vs=[.ref l]/\SqL K H1 l (ts.map V.str)/\ts.length<1000/\Q (.int (pP ts)) H1
theorem qi (hc:X.calm=true) (hg:Gl X "len") (hm:X.mg "len" = none) (hg1:Gl X "set") (hm1:X.mg "set" = none) (ha:PA X [a] ta) (hs:starEach [a] X.env=[(false,eval a X.env)]:=by rfl)
  (he:starEach [.Call (.Name "set" p1) [a] [] pos1] X.env=[(false,eval (.Call (.Name "set" p1) [a] [] pos1) X.env)]:=by rfl) :
  PE X (.Call (.Name "len" p) [.Call (.Name "set" p1) [a] [] pos1] [] pos) (nX X.K ta):=by
 intro pins s U H Q I h;refine wpAny_Call_Name_kw (cr I hg hm QJ ?_);refine PyProof.Rows.callWith_builtin1 ?_ he rfl;rw[he];show wpAny _ _ (spliced ((false,eval (.Call (.Name "set" p1) [a] [] pos1) X.env)::backTo pos [])) _ _ s;refine Calls.spliced_cons ?_;refine Call_ (cr I hg1 hm1 PyProof.Rows.boot_set (Q9 (thn (ha pos1 pins s U H _ I h) λus s1 z=>?_) hs rfl));obtain⟨vs,H1,I1,r1,l,ts,e,hl,hsm,q⟩:=z;subst e;obtain⟨u1,e,ru1⟩:=cT r1;subst e;cases ru1;obtain⟨its,rv,pl,_⟩:=I1.list hl;have hlen:its.length=ts.length:=by rw[<-rv.length,Qc]
 refine LS.j5 (its:=its.toArray) (g:=λi=>ts.getD i Str.empty) (I1.ok.hd hc) pl.isList (λi v hv=>?_) (LS.u7 (by rw[Qi,hlen];unfold scanBound;omega)) λh3 tk q3 kept=>?_
 ·have hv':its[i]?=some v:=by simpa using hv
  have hi:i<ts.length:=by
   have:=(Qf.mp hv').1;omega
  have e1:(ts.map V.str)[i]?=some (.str (ts.getD i Str.empty)):=by
   rw[Qv,Qd hi,Qr,Qd hi];rfl
  obtain⟨u,hu,ru⟩:=rv.get e1;rw[hv']at hu;cases hu;obtain⟨t,e2⟩:=ru;exact⟨t,e2⟩
 refine Calls.spliced_nil ?_;have hz:its.toArray.size=ts.length:=by rw[Qi];exact hlen
 rw[hz]at q3;obtain⟨o,es,ep,t,ho,hex,hd,_,_,_,hf,hn,_⟩:=q3;have hle:=LS.jL (λi=>ts.getD i Str.empty) ts.length;refine PySem.call_len_set ho hex hd hf (by rw[hn];omega) ?_;exact⟨.int (pP ts),H1,I1.kept (t':=tk+1+1) kept,⟨tk+1,by rw[hn];rfl⟩,q⟩
end
end L2
namespace LS
open PySem
theorem lG (g:Nat->Str):∀n,(met g n).length=n↔∀i j,i<n->j<n->g i=g j->i=j
 | 0=>⟨λ_ i j h=>absurd h (Nat.not_lt_zero _),λ_=>rfl⟩
 | n+1=>by
  have ih:=lG g n;have le:=jL g n
  have e:(met g (n+1)).length=if g n∈met g n then (met g n).length else (met g n).length+1:=by
   show (if g n∈met g n then met g n else met g n++[g n]).length=_
   split <;> simp
  constructor
  ·intro h;rw[e]at h;have ni:g n∉met g n:=λz=>by rw[Qs z]at h;omega
   rw[Qq ni]at h;have old:=ih.mp (by omega);have no:∀j,j<n->g j≠g n:=λj hj z=>ni ((jK g _ n).mpr ⟨j,hj,z⟩);intro i j hi hj hg;rcases Nat.lt_succ_iff_lt_or_eq.mp hi with a|a <;> rcases Nat.lt_succ_iff_lt_or_eq.mp hj with b|b
   ·exact old i j a b hg
   ·subst b;exact absurd hg (no i a)
   ·subst a;exact absurd hg.symm (no j b)
   omega
  intro h;have old:=ih.mpr λi j a b=>h i j (by omega) (by omega)
  have ni:g n∉met g n:=λz=>by
   obtain⟨j,hj,q⟩:=(jK g _ n).mp z;have:=h j n (by omega) (by omega) q;omega
  rw[e,Qq ni];omega
end LS
namespace L2
open PySem
theorem rg {ts:List Str}:pP ts=ts.length↔ts.Nodup:=by
 unfold pP List.Nodup;rw[LS.lG,List.pairwise_iff_getElem];have at_:∀(i:Nat) (hi:i<ts.length),ts.getD i Str.empty=ts[i]:=λi hi=>by rw[Qr,Qd hi];rfl
 constructor
 ·intro h i j hi hj hij hq;have:=h i j hi hj (by rw[at_ i hi,at_ j hj,hq]);omega
 intro h i j hi hj hg;rw[at_ i hi,at_ j hj]at hg;by_cases a:i<j
 ·exact absurd hg (h i j hi hj a)
 by_cases b:j<i
 ·exact absurd hg.symm (h j i hj hi b)
 omega
end L2
namespace L2
open PySem PySem.Spec PyProof.Rows
section
variable {K:PySem.W.Frag} {g:TG} {te:TE} {σ0:St} {QD:Hp->Prop} {H1:Hp} {D:Addr}
theorem tV {a:Addr} {xs:List V} (Pv:Nat->Hp->List V->Prop) (h0:Pv 0 (upd H1 D (.lst [])) []) (hD:∀i H ys,Pv i H ys->H D=some (.lst ys)/\SqT K H a xs)
  (hs:∀i x H ys,xs[i]?=some x->Pv i H ys->g x σ0 H λσ2 H2=>wk σ0 σ2/\eP σ2 H2 λb H3=>if b=true then te σ2 H3 (dQ Pv xs.length D i ys) else ∃m',m'<xs.length-i/\(m'=xs.length-(i+1)/\i+1<=xs.length/\Pv (i+1) H3 ys)) (hd:∀H ys,Pv xs.length H ys->QD H) :
  ∃W:Nat->Nat->Hp->List V->Prop,(∃m,W 0 m (upd H1 D (.lst [])) [])/\∀i m H ys,W i m H ys->H D=some (.lst ys)/\(((Itt K a).stop i H/\QD H)\/((Itt K a).go i H/\∀x H',(Itt K a).yld i H x H'->g x σ0 H' λσ2 H2=>wk σ0 σ2/\eP σ2 H2 λb H3 =>
   if b=true then te σ2 H3 λv H4=>H4 D=some (.lst ys)/\ys.length<sizeLine/\∃m',m'<m/\W (i+1) m' (upd H4 D (.lst (ys++[v]))) (ys++[v]) else ∃m',m'<m/\W (i+1) m' H3 ys)):=by
 refine⟨λi m H ys=>m=xs.length-i/\i<=xs.length/\Pv i H ys,⟨xs.length,by simp,QU _,h0⟩,?_⟩;rintro i m H ys ⟨rfl,hi,p⟩;obtain⟨d1,d2⟩:=hD i H ys p;refine⟨d1,?_⟩;by_cases hlt:i<xs.length
 ·refine .inr ⟨⟨xs,xs[i],d2,by simp[hlt]⟩,λx H' y=>?_⟩;obtain⟨e,y⟩:=y;subst e;exact hs i x _ ys (y xs d2) p
 have e:i=xs.length:=by exact om0 hi hlt
 subst e;exact .inl ⟨⟨xs,d2,Qj _⟩,hd H ys p⟩
end
end L2
namespace L2
open PySem PySem.Spec PyProof.Rows
open AutoSeq1 (wpAny_loadPart')
section
variable {P:Program} {w:World} {A:Around} {E:A0} {s:Shared}
end
end L2
namespace L2
open PySem PySem.Spec PyProof.Rows
section
variable {P:Program} {w:World} {A:Around} {E:A0} {s:Shared}
end
end L2
namespace LY
open PySem LZ
section
variable {prog:Program} {w:World} {A:Around} {E:A0} {s:Shared}
variable {Q:Option Value->Shared->Prop} {xs ys:Array Value} {m z i1 i2 l:Addr}
theorem next_first {TI TO:Addr} {k:Nat} {v u a b:Value} (D:Apart5 z TI TO i1 i2 l) (mz:m≠z) (mTO:m≠TO) (mi1:m≠i1) (mi2:m≠i2)
  (hz:IsZ s.heap z TI TO .none false) (hTI:IsPair s.heap TI (.ref i1) (.ref i2)) (hTO:IsPair s.heap TO a b) (h1:s.heap.IsListIter i1 l k) (h2:s.heap.IsListIter i2 m k) (hl:s.heap.IsList l xs) (hm:s.heap.IsList m ys) (hv:xs[k]?=some v) (hc:ys[k]?=some u)
  (hQ:∀h',IsZ h' z TI TO (rawInt s.heap.objs.size) false->(∃a b,IsPair h' TO a b)->h'.IsListIter i1 l (k+1)->h'.IsListIter i2 m (k+1)->IsPair h' s.heap.objs.size v u->h'.objs.size=s.heap.objs.size+1 ->
   (∀c o,c≠z->c≠TO->c≠i1->c≠i2->s.heap.get? c=some o->h'.get? c=some o)->Q (some (.ref s.heap.objs.size)) { s with heap:=h' }) :
  wpAny (model prog w) A (pyNext (.ref z)) Q E s:=by
 have hT:s.TypeIs (.ref z) "zip" := ⟨_,hz,rfl⟩;unfold pyNext
 refine Qa (wpAny_attempt (Q7 (name:=Str.ofString "__next__") hT X1
  (QZ X1 hT F.entry_zip_next ?_ (F.args_zip_next_1 _))))
 show wpAny _ _ (field (.ref z) 2 >>= _) _ _ _;refine Qa (Q6 hz rfl (x:=.bool false) rfl ?_);show wpAny _ _ (field (.ref z) 3 >>= _) _ _ _;refine Qa (Q6 hz rfl (x:=.ref TI) rfl ?_);refine Qa (Xe hTI rfl ?_);show wpAny _ _ (Builtin.SmallTypes.ownedTupleIsFree (.ref z) >>= _) _ _ _;refine Qa ?_;unfold Builtin.SmallTypes.ownedTupleIsFree;refine Qa (Q6 hz rfl (x:=.none) rfl (Qe ?_));simp only[if_true];refine Qa (wpAny_rule ?_);refine Qa (Q6 hz rfl (x:=.ref TO) rfl ?_);refine Qa (Xk hz (by simp) λh₁ hz1 hs1=>?_)
 replace hz1:IsZ h₁ z TI TO .ellipsis false:=hz1
 refine Qa ?_;simp only[List.zipIdx_cons,List.zipIdx_nil,XH,XZ];refine Qa (Qa (wpAny_onRaise ?_));show wpAny _ _ (Builtin.SmallTypes.nextOf (.ref i1) >>= _) _ _ _;refine Qa (XU (h1.extBut hs1.extBut D.i1z) (hl.extBut hs1.extBut D.lz) hv λh₂ h12 hs₂=>Qe ?_);have hTO2:IsPair h₂ TO a b:=hs₂.extBut _ _ D.TOi1 (hs1.extBut _ _ D.TOz hTO);refine Qa (Xe hTO2 rfl ?_);refine Qa (wpAny_updateSeq_pair hTO2 λh₃ hTO3 hs₃=>?_)
 replace hTO3:IsPair h₃ TO v b:=hTO3
 refine Qa (wpAny_letGo (Qe ?_));refine Qa (Qa (wpAny_onRaise ?_));show wpAny _ _ (Builtin.SmallTypes.nextOf (.ref i2) >>= _) _ _ _;have h23:h₃.IsListIter i2 m k:=((h2.extBut hs1.extBut D.i2z).extBut hs₂.extBut D.i12.symm).extBut hs₃.extBut D.TOi2.symm;refine Qa (XU h23 (((hm.extBut hs1.extBut mz).extBut hs₂.extBut mi1).extBut hs₃.extBut mTO) hc λh₄ h24 hs4=>Qe ?_);have hTO4:IsPair h₄ TO v b:=hs4.extBut _ _ D.TOi2 hTO3;refine Qa (Xe hTO4 rfl ?_);refine Qa (wpAny_updateSeq_pair hTO4 λh₅ hTO5 hs5=>?_)
 replace hTO5:IsPair h₅ TO v u:=hTO5
 refine Qa (wpAny_letGo (Qe (Qe ?_)));refine Qa (Xe hTO5 rfl ?_);refine Qa (wpAny_newTuple ?_);have hsz:h₅.objs.size=s.heap.objs.size:=by rw[hs5.1,hs4.1,hs₃.1,hs₂.1,hs1.1]
 have hz5:IsZ h₅ z TI TO .ellipsis false:=hs5.extBut _ _ D.TOz.symm (hs4.extBut _ _ D.i2z.symm (hs₃.extBut _ _ D.TOz.symm (hs₂.extBut _ _ D.i1z.symm hz1)))
 have hk5:∀c o,c≠z->c≠TO->c≠i1->c≠i2->s.heap.get? c=some o->h₅.get? c=some o:=λc o c1 c2 c3 c4 e =>
  hs5.extBut _ _ c2 (hs4.extBut _ _ c4 (hs₃.extBut _ _ c2 (hs₂.extBut _ _ c3 (hs1.extBut _ _ c1 e))))
 have h15:h₅.IsListIter i1 l (k+1):=((h12.extBut hs₃.extBut D.TOi1.symm).extBut hs4.extBut D.i12).extBut hs5.extBut D.TOi1.symm;have h25:h₅.IsListIter i2 m (k+1):=h24.extBut hs5.extBut D.TOi2.symm;have hzlt:z<h₅.objs.size:=Qo hz5;show wpAny _ _ (Builtin.SmallTypes.ownedTupleHandOut (.ref z) (.ref h₅.objs.size) >>= _) _ _ _;refine Qa ?_;unfold Builtin.SmallTypes.ownedTupleHandOut;have hz6:IsZ (h₅.push { cls:=.type "tuple", data:=.seq #[v,u] }) z TI TO .ellipsis false:=Qb _ hz5;refine Qa (Xk hz6 (by simp) λh₇ hz7 hs7=>?_)
 replace hz7:IsZ h₇ z TI TO (rawInt h₅.objs.size) false:=hz7
 refine Xk hz7 (by simp) λh₈ hz₈ hs8=>?_
 replace hz₈:IsZ h₈ z TI TO (rawInt h₅.objs.size) false:=hz₈
 have up:∀c o,c≠z->h₅.get? c=some o->h₈.get? c=some o:=λc o c1 e=>hs8.extBut _ _ c1 (hs7.extBut _ _ c1 (Qb _ e));have hT8:IsPair h₈ h₅.objs.size v u:=hs8.extBut _ _ (X0 hzlt) (hs7.extBut _ _ (X0 hzlt) (Qn _ rfl));have hz8:h₈.objs.size=h₅.objs.size+1:=by rw[hs8.1,hs7.1,QQ]
 rw[hsz]at hz₈ hT8 hz8;refine Qe ⟨_,rfl,Qe ?_⟩;show Q (some (.ref h₅.objs.size)) _;rw[hsz];exact hQ h₈ hz₈ ⟨_,_,up _ _ D.TOz hTO5⟩ (h15.at λo e=>up _ o D.i1z e) (h25.at λo e=>up _ o D.i2z e) hT8 hz8 λc o c1 c2 c3 c4 e=>up c o c1 (hk5 c o c1 c2 c3 c4 e)
theorem m8 {TI TO T:Addr} {f1:Bool} {oT:Obj} {k:Nat} {v u:Value} (D:Apart5 z TI TO i1 i2 l) (mz:m≠z) (mTO:m≠TO) (mi1:m≠i1) (mi2:m≠i2)
  (hz:IsZ s.heap z TI TO (rawInt T) f1) (hT:s.heap.get? T=some oT) (hTI:IsPair s.heap TI (.ref i1) (.ref i2)) (h1:s.heap.IsListIter i1 l k) (h2:s.heap.IsListIter i2 m k) (hl:s.heap.IsList l xs) (hm:s.heap.IsList m ys) (hv:xs[k]?=some v) (hc:ys[k]?=some u)
  (hQ:∀h',IsZ h' z TI TO (rawInt T) true->h'.IsListIter i1 l (k+1)->h'.IsListIter i2 m (k+1)->IsPair h' s.heap.objs.size v u->h'.objs.size=s.heap.objs.size+1 ->
   (∀c o,c≠z->c≠i1->c≠i2->s.heap.get? c=some o->h'.get? c=some o)->Q (some (.ref s.heap.objs.size)) { s with heap:=h' }) :
  wpAny (model prog w) A (pyNext (.ref z)) Q E s:=by
 have hTy:s.TypeIs (.ref z) "zip" := ⟨_,hz,rfl⟩;unfold pyNext
 refine Qa (wpAny_attempt (Q7 (name:=Str.ofString "__next__") hTy X1
  (QZ X1 hTy F.entry_zip_next ?_ (F.args_zip_next_1 _))))
 show wpAny _ _ (field (.ref z) 2 >>= _) _ _ _;refine Qa (Q6 hz rfl (x:=.bool false) rfl ?_);show wpAny _ _ (field (.ref z) 3 >>= _) _ _ _;refine Qa (Q6 hz rfl (x:=.ref TI) rfl ?_);refine Qa (Xe hTI rfl ?_);show wpAny _ _ (Builtin.SmallTypes.ownedTupleIsFree (.ref z) >>= _) _ _ _;refine Qa ?_;unfold Builtin.SmallTypes.ownedTupleIsFree;refine Qa (Q6 hz rfl (x:=rawInt T) rfl ?_);show wpAny _ _ (loadIfAlive ((T:Int).toNat) >>= _) _ _ _;rw[Xa];refine Qa (t7 hT ?_);simp only[Option.isNone_some,Qz,Xs];refine Qa (Q6 hz rfl (x:=.bool f1) rfl ?_)
 cases f1 with
 | false =>
  simp only[show (Value.bool false != Value.bool true)=true from rfl,if_true];refine Qa (Xk hz (by simp) λh₁ hz1 hs1=>Qe ?_)
  replace hz1:IsZ h₁ z TI TO (rawInt T) true:=hz1
  simp only[Qz,Xs,List.forIn_toArray,XH,XZ];refine Qa (Qa (Qa (QT ?_)));show wpAny _ _ (Builtin.SmallTypes.nextOf (.ref i1) >>= _) _ _ _;refine Qa (XU (h1.extBut hs1.extBut D.i1z) (hl.extBut hs1.extBut D.lz) hv λh₂ h12 hs₂=>Qe ?_);refine Qe ?_;dsimp only;refine Qa (Qa (QT ?_));show wpAny _ _ (Builtin.SmallTypes.nextOf (.ref i2) >>= _) _ _ _;have h22:h₂.IsListIter i2 m k:=(h2.extBut hs1.extBut D.i2z).extBut hs₂.extBut D.i12.symm;refine Qa (XU h22 ((hm.extBut hs1.extBut mz).extBut hs₂.extBut mi1) hc λh₄ h24 hs4=>Qe ?_);refine Qe (Qe ?_);dsimp only;show wpAny _ _ (newTuple [v,u] >>= _) _ _ _;refine Qa (wpAny_newTuple ?_);have hsz:h₄.objs.size=s.heap.objs.size:=by rw[hs4.1,hs₂.1,hs1.1]
  have hz4:IsZ h₄ z TI TO (rawInt T) true:=hs4.extBut _ _ D.i2z.symm (hs₂.extBut _ _ D.i1z.symm hz1);have hk₄:∀c o,c≠z->c≠i1->c≠i2->s.heap.get? c=some o->h₄.get? c=some o:=λc o c1 c3 c4 e=>hs4.extBut _ _ c4 (hs₂.extBut _ _ c3 (hs1.extBut _ _ c1 e));refine Qe ⟨_,rfl,Qe ?_⟩;show Q (some (.ref h₄.objs.size)) _;rw[hsz];exact hQ _ (Qb _ hz4) ((h12.extBut hs4.extBut D.i12).at λo e=>Qb _ e) (h24.at λo e=>Qb _ e) (by rw[<-hsz];exact Qn _ rfl) (by rw[QQ,hsz]) λc o c1 c3 c4 e=>Qb _ (hk₄ c o c1 c3 c4 e)
 | true =>
 simp only[show (Value.bool true != Value.bool true)=false from rfl,Qz,Xs];refine Qe ?_;have hz1:IsZ s.heap z TI TO (rawInt T) true:=hz;have hs1:Heap.SameBut z s.heap s.heap:=.refl ..;simp only[Qz,Xs,List.forIn_toArray,XH,XZ];refine Qa (Qa (Qa (QT ?_)));show wpAny _ _ (Builtin.SmallTypes.nextOf (.ref i1) >>= _) _ _ _;refine Qa (XU (h1.extBut hs1.extBut D.i1z) (hl.extBut hs1.extBut D.lz) hv λh₂ h12 hs₂=>Qe ?_);refine Qe ?_;dsimp only;refine Qa (Qa (QT ?_));show wpAny _ _ (Builtin.SmallTypes.nextOf (.ref i2) >>= _) _ _ _;have h22:h₂.IsListIter i2 m k:=(h2.extBut hs1.extBut D.i2z).extBut hs₂.extBut D.i12.symm;refine Qa (XU h22 ((hm.extBut hs1.extBut mz).extBut hs₂.extBut mi1) hc λh₄ h24 hs4=>Qe ?_);refine Qe (Qe ?_);dsimp only;show wpAny _ _ (newTuple [v,u] >>= _) _ _ _;refine Qa (wpAny_newTuple ?_);have hsz:h₄.objs.size=s.heap.objs.size:=by rw[hs4.1,hs₂.1,hs1.1]
 have hz4:IsZ h₄ z TI TO (rawInt T) true:=hs4.extBut _ _ D.i2z.symm (hs₂.extBut _ _ D.i1z.symm hz1);have hk₄:∀c o,c≠z->c≠i1->c≠i2->s.heap.get? c=some o->h₄.get? c=some o:=λc o c1 c3 c4 e=>hs4.extBut _ _ c4 (hs₂.extBut _ _ c3 (hs1.extBut _ _ c1 e));refine Qe ⟨_,rfl,Qe ?_⟩;show Q (some (.ref h₄.objs.size)) _;rw[hsz];exact hQ _ (Qb _ hz4) ((h12.extBut hs4.extBut D.i12).at λo e=>Qb _ e) (h24.at λo e=>Qb _ e) (by rw[<-hsz];exact Qn _ rfl) (by rw[QQ,hsz]) λc o c1 c3 c4 e=>Qb _ (hk₄ c o c1 c3 c4 e)
abbrev zH1 (h:Heap) (l:Addr):Heap:=h.push { cls:=.type "list_iterator", data:=.fields #[.ref l,.int 0 0] }
abbrev zH2 (h:Heap) (l m:Addr):Heap:=(zH1 h l).push { cls:=.type "list_iterator", data:=.fields #[.ref m,.int 0 0] }
abbrev zH3 (h:Heap) (l m:Addr):Heap:=(zH2 h l m).push { cls:=.type "tuple", data:=.seq #[.ref h.objs.size,.ref (zH1 h l).objs.size] }
abbrev zH4 (h:Heap) (l m:Addr):Heap:=(zH3 h l m).push { cls:=.type "tuple", data:=.seq #[.none,.none] }
abbrev zH5 (h:Heap) (l m:Addr):Heap:=(zH4 h l m).push { cls:=.type "zip", data:=.fields #[.none,.bool false,.bool false,.ref (zH2 h l m).objs.size,.ref (zH3 h l m).objs.size] }
theorem meets_new (l m:Addr) (xs ys:Array Value) :
  Meets (Builtin.«zip.__new__» ⟨[.type "zip", .ref l,.ref m],[]⟩) (λ_ R s=>s.heap.IsList l xs/\s.heap.IsList m ys/\R (.ok (.ret (.ref (zH4 s.heap l m).objs.size))) { s with heap:=zH5 s.heap l m }) :=
 .of_wp λprog w A R s h=>by
  obtain⟨hp,g,d,tk,os⟩:=s;obtain⟨hl1,hl2,h⟩:=h;have hsub:=sub_zip;have hL1:Heap.IsList (Shared.heap ⟨hp,g,d,tk,os⟩) l xs:=hl1;have hL2:Heap.IsList (Shared.heap ⟨hp.push { cls:=.type "list_iterator", data:=.fields #[.ref l,.int 0 0] },g,d,tk,os⟩) m ys:=hl2.push _
  wp_walk using wpAny_pyIter_list hL1,wpAny_pyIter_list hL2
  exact⟨_,rfl,h⟩
theorem call_zip {Q:A0} (hl1:s.heap.IsList l xs) (hl2:s.heap.IsList m ys)
  (h:∀h',IsZ h' (s.heap.objs.size+4) (s.heap.objs.size+2) (s.heap.objs.size+3) .none false->IsPair h' (s.heap.objs.size+2) (.ref s.heap.objs.size) (.ref (s.heap.objs.size+1)) ->
   IsPair h' (s.heap.objs.size+3) .none .none->h'.IsListIter s.heap.objs.size l 0->h'.IsListIter (s.heap.objs.size+1) m 0->h'.objs.size=s.heap.objs.size+5 ->
   (∀c o,s.heap.get? c=some o->h'.get? c=some o)->Q (.ref (s.heap.objs.size+4)) { s with heap:=h' }) :
  wpAny (model prog w) A (call (.type "zip") [.ref l,.ref m]) Q E s:=by
 refine callType_new F.called_zip (by decide) (F.typeCall_zip_2 _ _) (F.newCall_zip_2 _ _) (λobj=>F.args_object_init_3 obj _ _) F.entry_zip_new (meets_new l m xs ys) ⟨hl1,hl2,?_⟩;have z1:(zH1 s.heap l).objs.size=s.heap.objs.size+1:=QQ ..;have z2:(zH2 s.heap l m).objs.size=s.heap.objs.size+2:=by rw[QQ,z1]
 have z3:(zH3 s.heap l m).objs.size=s.heap.objs.size+3:=by rw[QQ,z2]
 have z4:(zH4 s.heap l m).objs.size=s.heap.objs.size+4:=by rw[QQ,z3]
 have z5:(zH5 s.heap l m).objs.size=s.heap.objs.size+5:=by rw[QQ,z4]
 have g5:(zH5 s.heap l m).get? (zH4 s.heap l m).objs.size=some _:=Qn _ rfl;have g4:(zH5 s.heap l m).get? (zH3 s.heap l m).objs.size=some _:=Qb _ (Qn _ rfl);have g3:(zH5 s.heap l m).get? (zH2 s.heap l m).objs.size=some _:=Qb _ (Qb _ (Qn _ rfl));have g2:(zH5 s.heap l m).get? (zH1 s.heap l).objs.size=some _:=Qb _ (Qb _ (Qb _ (Qn _ rfl)));have g1:(zH5 s.heap l m).get? s.heap.objs.size=some _:=Qb _ (Qb _ (Qb _ (Qb _ (Qn _ rfl))));show _/\_;rw[z2,z3,z4]at g5;rw[z1,z2]at g3;rw[z3]at g4;rw[z1]at g2;rw[z4]
 exact⟨⟨_,g5,rfl⟩,h _ g5 g3 g4 ⟨_,g1,rfl,rfl⟩ ⟨_,g2,rfl,rfl⟩ z5 λc o x =>
  Qb _ (Qb _ (Qb _ (Qb _ (Qb _ x))))⟩
end
structure ApartM (z TI TO i1 i2 l m d:Addr):Prop extends ApartD z TI TO i1 i2 l d where
 mz:m≠z
 mTO:m≠TO
 mi1:m≠i1
 mi2:m≠i2
 dm:d≠m
structure ZS (h:Heap) (z TI TO i1 i2 l d:Addr) (m:Addr) (xs ys:Array Value) (k:Nat):Prop where
 zf:(IsZ h z TI TO .none false/\∃a b,IsPair h TO a b)\/∃(T:Addr) (f1:Bool) (oT:Obj),IsZ h z TI TO (rawInt (T:Nat)) f1/\h.get? T=some oT/\T≠z/\T≠i1/\T≠i2/\T≠d
 ti:IsPair h TI (.ref i1) (.ref i2)
 a1:h.IsListIter i1 l k
 a2:h.IsListIter i2 m k
 li:h.IsList l xs
 mi:h.IsList m ys
section
variable {prog:Program} {w:World} {K:Type} [DecidableEq K] {knd:KeyKind prog w K} {A:Around} {R:Result->Shared->Prop}
variable {Q:Option Value->Shared->Prop} {xs ys:Array Value} {m z i1 i2 l d:Addr} {s:Shared} {E:A0}
theorem ub {TI TO:Addr} {k:Nat} {v u:Value} {od:Obj} (D:ApartM z TI TO i1 i2 l m d)
  (Z:ZS s.heap z TI TO i1 i2 l d m xs ys k) (hod:s.heap.get? d=some od) (hv:xs[k]?=some v) (hc:ys[k]?=some u)
  (hQ:∀h' T,ZS h' z TI TO i1 i2 l d m xs ys (k+1)->IsPair h' T v u->T≠d->(∀c o,c≠z->c≠TO->c≠i1->c≠i2->s.heap.get? c=some o->h'.get? c=some o)->Q (some (.ref T)) { s with heap:=h' }) :
  wpAny (model prog w) A (pyNext (.ref z)) Q E s:=by
 have lt:∀{c o},s.heap.get? c=some o->s.heap.objs.size≠c:=λe=>X0 (Qo e);have l1:s.heap.objs.size≠i1:=by obtain⟨_,e,_⟩:=Z.a1;exact lt e
 have l2:s.heap.objs.size≠i2:=by obtain⟨_,e,_⟩:=Z.a2;exact lt e
 rcases Z.zf with⟨hz,a,b,hTO⟩|⟨T,f1,oT,hz,hT,n1,n2,n3,n4⟩
 ·refine next_first D.toApart5 D.mz D.mTO D.mi1 D.mi2 hz Z.ti hTO Z.a1 Z.a2 Z.li Z.mi hv hc λh' b1 b2 b3 b4 b5 b6 b7=>?_;exact hQ h' _ ⟨.inr ⟨_,_,_,b1,b5,lt hz,l1,l2,lt hod⟩,b7 _ _ D.TIz D.TITO D.TIi1 D.TIi2 Z.ti,b3,b4,Z.li.at λo e=>b7 _ o D.lz D.lTO D.li1 D.li2 e,Z.mi.at λo e=>b7 _ o D.mz D.mTO D.mi1 D.mi2 e⟩ b5 (lt hod) b7
 refine m8 D.toApart5 D.mz D.mTO D.mi1 D.mi2 hz hT Z.ti Z.a1 Z.a2 Z.li Z.mi hv hc λh' b1 b3 b4 b5 b6 b7=>?_;exact hQ h' _ ⟨.inr ⟨T,_,oT,b1,b7 _ _ n1 n2 n3 hT,n1,n2,n3,n4⟩,b7 _ _ D.TIz D.TIi1 D.TIi2 Z.ti,b3,b4,Z.li.at λo e=>b7 _ o D.lz D.li1 D.li2 e,Z.mi.at λo e=>b7 _ o D.mz D.mi1 D.mi2 e⟩ b5 (lt hod) λc o c1 _ c3 c4 e=>b7 c o c1 c3 c4 e
theorem wf {TI TO:Addr} {k:Nat} (hh:A.handled=none) (D:ApartM z TI TO i1 i2 l m d)
  (Z:ZS s.heap z TI TO i1 i2 l d m xs ys k) (hv:xs[k]?=none) (hQ:∀h',(∀c o,c≠z->c≠i1->s.heap.get? c=some o->h'.get? c=some o)->Q none { s with heap:=h' }):wpAny (model prog w) A (pyNext (.ref z)) Q E s:=by
 rcases Z.zf with⟨hz,a,b,hTO⟩|⟨T,f1,oT,hz,hT,n1,n2,n3,n4⟩
 ·exact next_end (a:=a) (b:=b) hh D.toApart5 hz (.inl ⟨rfl,rfl,a,b,hTO⟩) Z.ti Z.a1 Z.li hv hQ
 exact next_end (a:=.none) (b:=.none) hh D.toApart5 hz (.inr ⟨T,oT,rfl,hT⟩) Z.ti Z.a1 Z.li hv hQ
theorem ZS.dict {h h':Heap} {TI TO:Addr} {k:Nat} (D:ApartM z TI TO i1 i2 l m d) (Z:ZS h z TI TO i1 i2 l d m xs ys k) (hs:Heap.SameBut d h h'):ZS h' z TI TO i1 i2 l d m xs ys k:=by
 refine⟨?_,hs.extBut _ _ D.dTI.symm Z.ti,Z.a1.extBut hs.extBut D.di1.symm,Z.a2.extBut hs.extBut D.di2.symm,Z.li.extBut hs.extBut D.dl.symm,Z.mi.extBut hs.extBut D.dm.symm⟩;rcases Z.zf with⟨hz,a,b,hTO⟩|⟨T,f1,oT,hz,hT,n1,n2,n3,n4⟩
 ·exact .inl ⟨hs.extBut _ _ D.dz.symm hz,a,b,hs.extBut _ _ D.dTO.symm hTO⟩
 exact .inr ⟨T,f1,oT,hs.extBut _ _ D.dz.symm hz,hs.extBut _ _ n4 hT,n1,n2,n3,n4⟩
theorem qU {TI TO:Addr} (D:ApartM z TI TO i1 i2 l m d) (hh:A.handled=none) (ks:Nat->K) (hk:∀k v,xs[k]?=some v->knd.is (ks k) v=true)
  (hlen:xs.size<=ys.size) (hsz:xs.size<=sizeLine):∀(mm k:Nat) (i:Int) (s:Shared) (kvs:List (K × Value)),xs.size-k=mm->k<=xs.size->ZS s.heap z TI TO i1 i2 l d m xs ys k->s.heap.DictOf knd d kvs->kvs.length<=k ->
  (∀h' tk (ps:List (K × Value)),ps.length=xs.size-k->(∀(j:Nat) p,ps[j]?=some p->p.1=ks (k+j)/\ys[k+j]?=some p.2)->h'.DictOf knd d (d7 kvs ps) ->
   (∀c o,c≠z->c≠TO->c≠i1->c≠i2->c≠d->s.heap.get? c=some o->h'.get? c=some o)->R (.ok (.ret .none)) { s with heap:=h',toks:=tk }) ->
  codeAny (model prog w) A (.builtin "dict.update.loop" ⟨[.ref d,.ref z,rawInt i,.none],[]⟩) R s:=by
 intro mm
 induction mm with
 | zero =>
  intro k i s kvs hm hkk Z hd hkl hR;have hin:k=xs.size:=by omega
  refine XB ji ?_;rw[Xp d9 _];show wpAny _ A.in1 (pyNext (.ref z) >>= _) _ _ s;refine Qa (wf (show A.in1.handled=none from hh) D Z (by rw[hin];simp) λh' hkeep=>?_);show wpAny _ _ (Builtin.Dict.addKeywords d [] >>= _) _ _ _;refine Qa (Qe (Qe ?_));have hdn:d≠z:=D.dz
  have hd':h'.DictOf knd d kvs:=by
   obtain⟨o,es,ep,e1,r⟩:=hd;exact⟨o,es,ep,hkeep d o D.dz D.di1 e1,r⟩
  exact hR h' s.toks [] (by simp;omega) (λj p e=>by simp at e) hd' λc o c1 _ c3 _ _ e=>hkeep c o c1 c3 e
 | succ mm ih =>
 intro k i s kvs hm hkk Z hd hkl hR;have hlt:k<xs.size:=by omega
 have hv:xs[k]?=some xs[k]:=by simp[hlt]
 have hltc:k<ys.size:=by omega
 have hc:ys[k]?=some ys[k]:=by simp[hltc]
 obtain⟨od,es0,ep0,hod,_⟩:=id hd;refine XB ji ?_;rw[Xp d9 _];show wpAny _ A.in1 (pyNext (.ref z) >>= _) _ _ s;refine Qa (ub D Z hod hv hc λh1 T Z1 hT hTd hkeep=>?_)
 have hd1:h1.DictOf knd d kvs:=by
  obtain⟨o,es,ep,e1,r⟩:=hd;exact⟨o,es,ep,hkeep d o D.dz D.dTO D.di1 D.di2 e1,r⟩
 refine Qa (QT ?_);have hTy:(Shared.TypeIs { s with heap:=h1 } (.ref T) "tuple"):=⟨_,hT,rfl⟩;refine Qa (wpAny_tryCatch ?_);unfold Builtin.Dict.pairItems;refine Qa (wpAny_typeOf hTy ?_);rw[Qs (by decide)];refine Qa (Xe hT rfl (Qe ?_));show wpAny _ _ (holding [xs[k],_] (dictSet d xs[k] _)) _ _ _;refine QT (wpAny_dictSet_pairs (hk k _ hv) hd1 (λh2 hd2 hs2=>?_) (by omega));refine Qe ⟨plainId_quiet d9 _,ih (k+1) (i+1) _ _ (by omega) (by omega) (ZS.dict D Z1 hs2) hd2 (QK (mK _ _ _) (by omega)) λh3 tk ps hl hp hd3 hk3=>?_⟩;refine hR h3 tk ((ks k,ys[k])::ps) (by rw[Xh,hl];omega) (λj p e=>?_) hd3 λc o c1 c2 c3 c4 c5 e=>hk3 c o c1 c2 c3 c4 c5 (hs2.extBut c o c5 (hkeep c o c1 c2 c3 c4 e))
 cases j with
 | zero =>
  have e':(ks k,ys[k])=p:=by simpa using e
  subst e';exact⟨rfl,hc⟩
 | succ j =>
 have q:=hp j p (by simpa using e);rw[show k+(j+1)=k+1+j by omega];exact q
theorem qZ {TI TO i1 i2 l:Addr} {m:Addr} {xs ys:Array Value} {Q:A0} (D:Apart5 z TI TO i1 i2 l) (mz:m≠z) (mTO:m≠TO) (mi1:m≠i1) (mi2:m≠i2) (hh:A.handled=none) (ks:Nat->K)
  (hk:∀k v,xs[k]?=some v->knd.is (ks k) v=true) (hlen:xs.size<=ys.size) (hsz:xs.size<=sizeLine) (hz:IsZ s.heap z TI TO .none false) (hTI:IsPair s.heap TI (.ref i1) (.ref i2)) (hTO:∃a b,IsPair s.heap TO a b)
  (h1:s.heap.IsListIter i1 l 0) (h2:s.heap.IsListIter i2 m 0) (hl:s.heap.IsList l xs) (hm:s.heap.IsList m ys)
  (h:∀h' tk (ps:List (K × Value)),ps.length=xs.size->(∀(j:Nat) p,ps[j]?=some p->p.1=ks j/\ys[j]?=some p.2)->h'.DictOf knd s.heap.objs.size (d7 [] ps) ->
   (∀c o,c≠z->c≠TO->c≠i1->c≠i2->s.heap.get? c=some o->h'.get? c=some o)->Q (.ref s.heap.objs.size) { s with heap:=h',toks:=tk }) :
  wpAny (model prog w) A (call (.type "dict") [.ref z]) Q E s:=by
 refine callType_codes (Q₁:=λobj s1=>obj=.ref s.heap.objs.size/\s1={ s with heap:=s.heap.push { cls:=.type "dict", data:=.dict #[] } }) mf (f8 _) F.entry_dict_init (iI _ ⟨rfl,rfl⟩) ?_;rintro obj s1 ⟨rfl,rfl⟩;have up:∀c o,s.heap.get? c=some o->(s.heap.push { cls:=.type "dict", data:=.dict #[] }).get? c=some o:=λc o e=>Qb _ e;have hnew:(s.heap.push { cls:=.type "dict", data:=.dict #[] }).DictOf knd s.heap.objs.size []:=Heap.DictOf.new s.heap;have lt:∀{c o},s.heap.get? c=some o->s.heap.objs.size≠c:=λe=>X0 (Qo e);have l1:s.heap.objs.size≠i1:=by obtain⟨_,e,_⟩:=h1;exact lt e
 have l2:s.heap.objs.size≠i2:=by obtain⟨_,e,_⟩:=h2;exact lt e
 have ll:s.heap.objs.size≠l:=by obtain⟨_,e,_⟩:=hl;exact lt e
 have lm:s.heap.objs.size≠m:=by obtain⟨_,e,_⟩:=hm;exact lt e
 obtain⟨a0,b0,hTO'⟩:=hTO;have DD:ApartM z TI TO i1 i2 l m s.heap.objs.size:=⟨⟨D,lt hz,lt hTI,lt hTO',l1,l2,ll⟩,mz,mTO,mi1,mi2,lm⟩;refine⟨hnew.typeIs,F.args_dict_init_2 _ _,?_⟩;unfold Builtin.«dict.__init__»;refine Qa ?_;unfold Builtin.Dict.selfAndRest;refine Qa (wpAny_notOrdered_dict hnew.typeIs ?_);show wpAny _ _ (pure (s.heap.objs.size,[Value.ref z])) _ _ _;refine Qe ?_;show wpAny _ _ (Builtin.Dict.updateFrom "dict.__init__" s.heap.objs.size (.ref z) [] .none) _ _ _;unfold Builtin.Dict.updateFrom;have hzT:Shared.TypeIs { s with heap:=s.heap.push { cls:=.type "dict", data:=.dict #[] } } (.ref z) "zip" := ⟨_,up _ _ hz,rfl⟩;refine Qa (wpAny_typeOf hzT ?_);rw[Qs (by decide)];refine Qa (qI (up _ _ hz) (show A.in1.in1.handled=none from hh) λh3 tk k3=>?_);simp only[Option.isNone_none,if_true];refine Qa (wpAny_rule ?_);have hz3:IsZ h3 z TI TO .none false:=k3 _ _ (up _ _ hz);refine Qa (wpAny_pyIter_zip (z:=z) (TI:=TI) (TO:=TO) (f0:=.none) hz3 ?_);refine Qe ⟨plainId_quiet d9 _,?_⟩;have Z3:ZS h3 z TI TO i1 i2 l s.heap.objs.size m xs ys 0:=⟨.inl ⟨hz3,a0,b0,k3 _ _ (up _ _ hTO')⟩,k3 _ _ (up _ _ hTI),h1.at λo e=>k3 _ o (up _ o e),h2.at λo e=>k3 _ o (up _ o e),hl.at λo e=>k3 _ o (up _ o e),hm.at λo e=>k3 _ o (up _ o e)⟩
 have hd3:h3.DictOf knd s.heap.objs.size []:=by
  obtain⟨o,es,ep,e1,r⟩:=hnew;exact⟨o,es,ep,k3 _ _ e1,r⟩
 refine qU DD (show A.in1.handled=none from hh) ks hk hlen hsz xs.size 0 0 _ [] (by simp) (QU _) Z3 hd3 (Qj _) λh4 tk4 ps hp1 hp2 hd4 hk4=>?_;refine⟨rfl,h h4 tk4 ps (by simpa using hp1) (λj p e=>by simpa using hp2 j p e) hd4 λc o c1 c2 c3 c4 e=>hk4 c o c1 c2 c3 c4 (lt e).symm (k3 _ _ (up _ _ e))⟩
end
end LY
namespace L2
open PySem PySem.Spec PyProof.Rows
def bA (ns:List Str) (us:List V):List (Key × V):=(ns.zip us).map λp=>(Sum.inr p.1,p.2)
section
variable {X:Cx} {a b:Expr} {ta:TA} {p1 p2 pos1 pos2:Pos}
def rs (K:PySem.W.Frag) (ta:TA):TE:=λU H Q=>ta U H λvs H1=>∃l m ns us,vs=[.ref l,.ref m]/\SqL K H1 l (ns.map V.str)/\SqL K H1 m us/\ns.length<=us.length/\ns.length<1000/\∀d,H1 d=none->Q (.ref d) (upd H1 d (.dK (bL [] (bA ns us))))
theorem lr (hc:X.calm=true) (hg:Gl X "dict") (hm:X.mg "dict" = none) (hg2:Gl X "zip") (hm2:X.mg "zip" = none) (ha:PA X [a,b] ta)
  (hs:starEach [a,b] X.env=[(false,eval a X.env),(false,eval b X.env)]:=by rfl) (hs2:starEach [b] X.env=[(false,eval b X.env)]:=by rfl)
  (hs0:starEach [.Call (.Name "zip" p2) [a,b] [] pos2] X.env=[(false,eval (.Call (.Name "zip" p2) [a,b] [] pos2) X.env)]:=by rfl) :
  PE X (.Call (.Name "dict" p1) [.Call (.Name "zip" p2) [a,b] [] pos2] [] pos1) (rs X.K ta):=by
 intro pins s U H Q I h;refine Call_ (cr I hg hm PyProof.Rows.boot_dict (Q9 ?_ hs0 rfl));rw[hs0];show wpAny _ _ (spliced [(false,eval (.Call (.Name "zip" p2) [a,b] [] pos2) X.env)]) _ _ s;refine Calls.spliced_cons ?_;refine Call_ (cr I hg2 hm2 PyProof.Rows.boot_zip (Q9 (thn (ha pos2 pins s U H _ I h) λws s1 ⟨vs,H1,I1,r1,q1⟩=>?_) (by rw[hs,hs2]) (by rw[hs2];rfl)));obtain⟨l,m,ns,us,e,hl,hm',hlen,hsm,q⟩:=q1;subst e;obtain⟨u1,u2,e,ru1,ru2⟩:=kD r1;subst e;cases ru1;cases ru2;obtain⟨its,rv,pl,_⟩:=I1.list hl;obtain⟨its2,rv2,pl2,_⟩:=I1.list hm';have hits2:its2.length=us.length:=rv2.length.symm;have hits:its.length=ns.length:=by have:=rv.length;rw[Qc]at this;exact this.symm
 refine LY.call_zip pl.isList pl2.isList λh2 b1 b2 b3 b4 b5 b6 b7=>?_;refine Calls.spliced_nil ?_;have I2:Inv X pins U H1 { s1 with heap:=h2 }:=I1.kept (t':=s1.toks) b7;have ltl:@LT.lt Nat _ l s1.heap.objs.size:=by obtain⟨o,ho,_⟩:=pl.isList;exact Qo ho
 have ltm:@LT.lt Nat _ m s1.heap.objs.size:=by obtain⟨o,ho,_⟩:=pl2.isList;exact Qo ho
 have big:1000<sizeLine:=by decide
 refine LY.qZ (knd:=az X.prog X.w) (i1:=s1.heap.objs.size) (i2:=s1.heap.objs.size+1) (l:=l) (m:=m) (xs:=its.toArray) (ys:=its2.toArray) ⟨(by show @Ne Nat _ _;omega),(by show @Ne Nat _ _;omega),(by show @Ne Nat _ _;omega),(by show @Ne Nat _ _;omega),(by show @Ne Nat _ _;omega),(by show @Ne Nat _ _;omega),(by show @Ne Nat _ _;omega),(by show @Ne Nat _ _;omega),(by show @Ne Nat _ _;omega),(by show @Ne Nat _ _;omega),(by show @Ne Nat _ _;omega),(by show @Ne Nat _ _;omega),(by show @Ne Nat _ _;omega),(by show @Ne Nat _ _;omega)⟩ (by show @Ne Nat _ _;omega) (by show @Ne Nat _ _;omega) (by show @Ne Nat _ _;omega) (by show @Ne Nat _ _;omega) (I.ok.hd hc) (λk=>Sum.inr (ns.getD k Str.empty)) (λk v hv=>?_)
  (by rw[Qi,Qi,hits,hits2];exact hlen) (by rw[Qi,hits];omega) b1 b2 ⟨_,_,b3⟩ b4 b5 (pl.isList.at λo e=>b7 _ o e) (pl2.isList.at λo e=>b7 _ o e) λh3 tk ps hp1 hp2 hd3 hk3=>?_
 ·have hv':its[k]?=some v:=by simpa using hv
  have hk:k<ns.length:=by have:=(Qf.mp hv').1;omega
  have e1:(ns.map V.str)[k]?=some (.str (ns.getD k Str.empty)):=by
   rw[Qv,Qd hk,Qr,Qd hk];rfl
  obtain⟨u,hu,ru⟩:=rv.get e1;rw[hv']at hu;cases hu;obtain⟨t',e⟩:=ru;subst e;exact fY _ _ _ _
 have hlenz:(bA ns us).length=ns.length:=by unfold bA;rw[Qc,List.length_zip];omega
 have kv:KV (bA ns us) ps:=by
  refine paired_get (by rw[hlenz,hp1,Qi,hits]) λj x y e1 e2=>?_;obtain⟨f1,f2⟩:=hp2 j y e2;unfold bA at e1;rw[Qv]at e1
  have hj:j<ns.length:=by
   have:=(Qf.mp e2).1;rw[hp1,Qi,hits]at this;exact this
  have e3:(ns.zip us)[j]?=some (ns[j],us[j]'(by omega)):=by rw[Xy];exact⟨Qd hj,Qd (by omega)⟩
  rw[e3]at e1;cases e1;refine⟨?_,?_⟩
  ·rw[f1];show (Sum.inr ns[j]:Key)=Sum.inr (ns.getD j Str.empty);rw[Qr,Qd hj];rfl
  obtain⟨w2,g2,rr2⟩:=rv2.get (Qd (show j<us.length by omega));have f2':its2[j]?=some y.2:=by simpa using f2
  rw[g2]at f2';cases f2';exact rr2
 have hnew:H1 h2.objs.size=none:=I2.hok.fresh (Qj _)
 have kept:∀c o,s1.heap.get? c=some o->h3.get? c=some o:=λc o e=>by
  have:@LT.lt Nat _ c s1.heap.objs.size:=Qo e;exact hk3 c o (by show @Ne Nat _ _;omega) (by show @Ne Nat _ _;omega) (by show @Ne Nat _ _;omega) (by show @Ne Nat _ _;omega) (b7 c o e)
 have hle:s1.heap.objs.size<=h2.objs.size:=by omega
 have I3:Inv X pins U (upd H1 h2.objs.size (.dK (bL [] (bA ns us)))) { s1 with heap:=h3,toks:=tk }:=I1.laid kept hle ⟨by
   have:=eK (bA ns us) [];rw[hlenz]at this;simp only[List.length_nil]at this
   omega,beq_eq_false_iff_ne.mpr (by
   have:@LT.lt Nat _ sysModules s1.heap.objs.size:=I1.big;intro e;have e':@Eq Nat h2.objs.size sysModules:=e
   omega),_,sX kv .nil,hd3⟩
 exact⟨.ref h2.objs.size,_,I3,rfl,q _ hnew⟩
end
end L2
namespace XE
open PySem
open Sem (wp)
structure XN (fs:A3) (e T:Addr) (oe:Obj) (h h':Heap):Prop where
 keep:∀b o,b≠e->b∉fs->h.get? b=some o->h'.get? b=some o
 slot:∀b o,b≠e->h.get? b=some o->∃sl,h'.get? b=some { o with slots:=sl }
 at_:h'.get? e=some (oe.mapFields (·.setIfInBounds 1 (.ref T)))
 new:h.get? T=none
section
variable {M:Model} {A:Around} {E:A0} {s:Shared}
structure Tr (e T:Addr) (h:Heap):Prop where
 ex:∃oe vs oT ts,h.get? e=some oe/\oe.data=.fields vs/\vs[1]?=some (.ref T)/\h.get? T=some oT/\oT.data=.fields ts/\ts[3]?=some .none
 ne:T≠e
structure XL (fs:A3) (e:Addr) (Ts:A3) (h h':Heap):Prop where
 keep:∀b o,b≠e->b∉Ts->b∉fs->h.get? b=some o->h'.get? b=some o
 slot:∀b o,b≠e->b∉Ts->h.get? b=some o->∃sl,h'.get? b=some { o with slots:=sl }
 at_:∀oe,h.get? e=some oe->∃oe',h'.get? e=some oe'/\oe'.cls=oe.cls/\oe'.dict=oe.dict
end
end XE
namespace XE
open PySem
abbrev newExc (C p:Addr):Obj:={ cls:=.ref C,data:=.fields #[.ref p,.none,.none,.none,.bool false,.none] }
structure XC (g:Heap) (C:Addr) (B new:String) (up top:List Value):Prop where
 obj:∃nm q N bs hd sn sub ab col dd a0 a1 a2 a3 a5,g.get? C=some (excClassObj nm q C N bs up hd sn sub ab col dd a0 a1 a2 a3 a5 new)
 tail:OwnTail g top up
theorem XC.keeps {g g':Heap} {C:Addr} {B new:String} {up top:List Value} (x:XC g C B new up top) (k:∀b o,g.get? b=some o->g'.get? b=some o):XC g' C B new up top:=by
 obtain⟨a1,a2,a3,a4,a5,a6,a7,a8,a9,a10,a11,a12,a13,a14,a15,e⟩:=x.obj;exact⟨⟨a1,a2,a3,a4,a5,a6,a7,a8,a9,a10,a11,a12,a13,a14,a15,k _ _ e⟩,x.tail.keeps k⟩
section
variable {P:Program} {w:World} {A:Around} {E:A0} {g:Heap} {gs:Array GenState} {dr:Drawn} {tk:Nat} {os:OsState} {C:Addr} {B new init:String} {up top:List Value}
end
end XE
set_option maxHeartbeats 1000000
namespace XE
open PySem PySem.W PySem.Calls PyProof.Rows Builtin Builtin.ObjectAttr
abbrev wg:List Value:=[.type "ValueError", .type "Exception", .type "BaseException", .type "object"]
structure XKl (K:Frag) (C NE:Addr):Prop where
 mr:((clsIn K C).any λcd=>cd.mro==.ref C::.ref NE::wg)=true
 ga:findIn K (.ref C) "__getattribute__" = some (some (.builtin "BaseException.__getattribute__"))
 gh:findIn K (.ref C) "__getattr__" = some none
 sb:subIn K (.ref C) (.type "BaseException")=some true
 hd:hasDictIn K C=true
 cl:findIn K (.ref C) "__class__" = some (some (.builtin "object.__class__"))
 cg:specialIn K (.builtin "object.__class__") "__get__" = some (some (.builtin "getset_descriptor.__get__"))
 ct:takesIn K (.builtin "object.__class__")=some true
 ob:mroIn K C (.type "object")=some true
 sa:findIn K (.ref C) "__setattr__" = some (some (.builtin "object.__setattr__"))
section
variable {P:Program} {w:World} {A:Around} {E:A0} {R:Result->Shared->Prop} {s:Shared} {K:Frag} {x C NE:Addr} {ox:Obj} {od:Option Obj} {name:Str}
end
end XE
namespace L2
open PySem PySem.Spec PyProof.Rows PySem.Calls
def XOk (e C:Addr) (d:Option Addr) (fresh:Bool) (h:Heap):Prop:=∃o vs,h.get? e=some o/\o.cls=.ref C/\o.dict=d/\o.data=.fields vs/\(fresh=true->∃t,vs=#[.ref t,.none,.none,.none,.bool false,.none])
abbrev XO (e C:Addr) (d:Option Addr) (fresh:Bool):HO:=.ext (XOk e C d fresh)
section
variable {P:Program} {w:World} {H H1 H2:Hp} {h h1 h2:Heap} {a e C L:Addr} {d:Option Addr} {b:Bool} {o u:HO} {fs Ts:A3}
theorem a_.there (x:a_ P w H h a o):∃u,h.get? a=some u:=by
 induction o with
 | lst xs=>obtain⟨_,_,_,_,e⟩:=x;exact⟨_,e⟩
 | tup xs=>obtain⟨_,_,_,_,e,_⟩:=x;exact⟨_,e⟩
 | dK kvs=>obtain⟨_,_,_,_,o,_,_,e,_⟩:=x;exact⟨_,e⟩
 | dT kvs=>obtain⟨_,_,_,_,o,_,_,e,_⟩:=x;exact⟨_,e⟩
 | set S n=>obtain⟨o,_,_,_,e,_⟩:=x;exact⟨_,e⟩
 | ins C dx fs=>obtain⟨_,_,_,e,_⟩:=x;exact⟨_,e⟩
 | own y=>obtain⟨_,e⟩:=x;exact⟨_,e⟩
 | xd fs=>obtain⟨_,⟨_,_,_,e,_⟩,_⟩:=x;exact⟨_,e⟩
 | rng lo hi=>obtain⟨_,_,_,e⟩:=x;exact⟨_,e⟩
 | frz ob u ih=>obtain⟨e,_⟩:=x;exact⟨_,e⟩
 | tbl ps=>exact⟨_,(show h.get? a=some _ from x)⟩
 | met f y=>exact⟨_,(show h.get? a=some _ from x)⟩
 | ext φ=>obtain⟨_,e,_⟩:=x;exact e
end
noncomputable def CX1 (P:Program) (w:World):CXT:=λouter H s E ev s'=>∃(e C T:Addr) (d:Option Addr) (H':Hp),ev=.ref e/\s'.os=s.os/\AllBare s'.gens/\Un (frs outer) [] H H' s.heap s'.heap/\HOk P w H' s'.heap /\
 H' e=some (XO e C d false)/\s.heap.get? T=none/\H' T=none/\XE.Tr e T s'.heap/\E (.ref C) (some e) H'
section
variable {P:Program} {w:World} {K:PySem.W.Frag} {mg:A2} {base:Heap} {N:List Str} {qual:Str} {scope:Scope} {f:Addr} {cd:Value} {A:Around} {outer:List Env} {s s1:Shared} {H H1:Hp} {E:XK} {pins:A1} {U:St} {e C:Addr} {d:Option Addr}
end
section
variable {X:Cx} {pins:A1} {U:St} {H:Hp} {s:Shared}
abbrev Cx.marked (X:Cx) (e:Addr):Cx:={ X with A:=X.A.mark (some (.ref e)),calm:=false,xe:=λ_ _=>False }
theorem Inv.mark (I:Inv X pins U H s) (e:Addr):Inv (X.marked e) pins U H s :=
 ⟨⟨I.ok.mod,I.ok.kind,I.ok.glob,I.ok.blt,I.ok.above,I.ok.inj,I.ok.has,I.ok.cab,(λz=>by cases z),I.ok.frames,I.ok.stk,I.ok.exf,I.ok.bs,I.ok.bsz,I.ok.noex,I.ok.exfs,I.ok.funs,I.ok.frf⟩,I.os,I.bare,I.base,I.loc,I.cell,I.free,I.freeC,I.pin,I.hok,I.len⟩
end
section
variable {X:Cx}
structure XMk (K:PySem.W.Frag) (C NE:Addr):Prop where
 xc:∀h:Heap,K.In h->XE.XC h C "ValueError" "ValueError.__new__" (.ref NE::XE.wg) XE.wg
 kp:PySem.W.keepIn K (.ref C)=true
 kl:XE.XKl K C NE
end
section
variable {X:Cx}
end
end L2
namespace XE
open PySem PySem.W PySem.Calls PyProof.Rows
section
variable {P:Program} {w:World} {A:Around} {E:A0} {g:Heap} {gs:Array GenState} {dr:Drawn} {tk:Nat} {os:OsState} {C:Addr} {B new init:String} {up top:List Value}
end
section
variable {P:Program} {w:World} {A:Around} {E:A0} {s:Shared} {K:Frag} {x C NE:Addr} {ox:Obj} {od:Option Obj}
end
end XE
namespace L2
open PySem PySem.Spec PyProof.Rows PySem.Calls
section
variable {X:Cx}
end
section
variable {P:Program} {w:World} {K:PySem.W.Frag} {mg:A2} {base:Heap} {N:List Str} {qual:Str} {scope:Scope} {f:Addr} {cd:Value} {A:Around} {outer:List Env} {s:Shared} {H:Hp} {E:XK}
end
section
variable {X:Cx}
def XP (X:Cx) (pins:A1) (U:St) (E:XK) (ev:Value) (s':Shared):Prop:=∃H1 s1,Inv X pins U H1 s1/\CX1 X.prog X.w X.stack H1 s1 E ev s'
end
end L2
set_option maxHeartbeats 4000000
namespace L2
open PySem PySem.Spec PyProof.Rows
section
variable {X:Cx}
theorem iQ:∀{ys:List Str} {us:List Value},StrsAre us ys->aO (ys.map V.str) us
 | _,_,.nil=>.nil
 | _,_,.cons x t h=>.cons ⟨t,rfl⟩ (iQ h)
def ut:List V->Hp->VK->Prop:=λxs H Q=>∃(l:Addr) (ss:List Str),xs=[.ref l]/\H l=some (.lst (ss.map V.str))/\ss.length<64/\∀p ss',H p=none->ss'.Perm ss->sortedS ss'=true->Q (.ref p) (upd H p (.lst (ss'.map V.str)))
theorem de:cM X (.builtin "sorted") ut:=by
 intro pins s U H xs us Q I r h;obtain⟨l,ss,rfl,hH,hz,q⟩:=h;obtain⟨u,rfl,ru⟩:=cT r;cases ru;obtain⟨z,its,n,r,hl,e⟩:=I.lstM hH;have sa:=dB r;rw[Qc]at hl z;refine sorted_strs ⟨_,e,rfl,n,rfl⟩ sa (by omega) λout ss' so pm st=>?_;have vo:=iQ so;have lo:ss'.length=ss.length:=pm.length_eq;obtain⟨en,at'⟩:=sortedAll_at s.heap its out;have hle:s.heap.objs.size<=s.heap.objs.size+1:=XX _;refine⟨.ref (s.heap.objs.size+1),_,I.laid (o:=.lst (ss'.map V.str)) (t':=s.toks) (λ_ _ g=>sortedAll_old g) hle ⟨by rw[Qc];omega,out.toList,en,vo,at'⟩,rfl,q _ ss' (I.hok.fresh hle) pm st⟩
end
end L2
namespace K2
open PySem L2
abbrev IvF:=Nat->St->Hp->Prop
abbrev IvC:=Nat->Hp->List V->Prop
abbrev IvJ:=St->Hp->Prop
variable {X:Cx}
theorem bP {K:PySem.W.Frag} (h:X.K=K):IxR X (wF K):=by subst h;exact au
variable {H H' H1 H2:Hp}
theorem gG {td ty tv:TE} {D:Ends} {U:St} (q:tv U H λv H1=>td U H1 λx H2=>ty U H2 λy H3=>∃a H4,x=.ref a/\iM H3 a y v H4/\D.nx U H4):vP td ty tv D U H:=q
theorem tI {td ty:TE} {U:St} {Q:VK} (q:ty U H λy H1=>td U H1 λx H2=>∃a o,x=.ref a/\dj H2 a y o/\Q (.bl (!o.isSome)) H2):nY ty td U H Q:=q
theorem j8 {K:PySem.W.Frag} (h:X.K=K):cM X (.builtin "isinstance") (λxs H Q=>∃x T ty b,xs=[x,.ty T]/\TyOf K H x ty/\PySem.W.kitOne K ty (.type T)=some b/\Q (.bl b) H):=by subst h;exact bp
structure Txt (K:PySem.W.Frag) (mg:A2) (TT:Addr):Prop where
 n_len:mg "len" = none
 n_range:mg "range" = none
 n_max:mg "max" = none
 n_min:mg "min" = none
 n_int:mg "int" = none
 n_list:mg "list" = none
 n_str:mg "str" = none
 n_isinstance:mg "isinstance" = none
 n_all:mg "all" = none
 n_set:mg "set" = none
 n_dict:mg "dict" = none
 n_enumerate:mg "enumerate" = none
 n_sorted:mg "sorted" = none
 n_tuple:mg "tuple" = none
 n_bool:mg "bool" = none
 n_zip:mg "zip" = none
 n_reversed:mg "reversed" = none
 lETTERS:∃t,mg "LETTERS" = some (.str "abcdefghijklmnopqrstuvwxyz" t)
 mLETTERS:∃t,mg "MOST_LETTERS" = some (.int 8 t)
 mNODES:∃t,mg "MOST_NODES" = some (.int 40 t)
 mWIRES:∃t,mg "MOST_WIRES" = some (.int 5 t)
 sA:∃a,mg "SIGNS_AHEAD" = some (.ref a)/\gt K a [("+", .flat (.str "0")),("-", .flat (.str "1"))]
 tURNED:mg "TURNED" = some (.ref TT)
 tab:gt K TT [("0", .flat (.str "1")),("1", .flat (.str "0"))]
structure Dk where
 d:Addr
 n:Nat
def Dk.more (D:Dk) (k:Nat):Dk:=⟨D.d,D.n+k⟩
def Dk.own (D:Dk) (b:Addr):Prop:=b=D.d
def Dk.At (D:Dk) (H:Hp):Prop:=∃a b c:Int,H D.d=some (.lst [.int a,.int b,.int c])/\0<=c/\c<=(D.n:Int)
structure Kp (D:Dk) (H H':Hp):Prop where
 old:∀b o,H b=some o->¬D.own b->H' b=some o
 dk:D.At H'
def eQ:Sp:=λvs H Q _=>∃(D:Dk) (m:Int),vs=[.ref D.d,.int m]/\D.At H/\D.n<100000/\1<=m/\m<=100000/\∀(r:Int) H',0<=r->r<m->Kp (D.more 1) H H'->Q (.int r) H'
theorem vX {D:Dk} {a b c:Int} (h0:0<=c) (h1:c<=(D.n:Int)):Kp D H (upd H D.d (.lst [.int a,.int b,.int c])):=⟨λb o e nb=>by rw[aq nb];exact e,⟨_,_,_,ah,h0,h1⟩⟩
def aX (H H':Hp):Prop:=∀b xs,H b=some (.tup xs)->H' b=some (.tup xs)
theorem ak.tups (S:ak H H'):aX H H':=λb xs e=>S b _ e
variable {D D':Dk}
theorem Dk.At.same {H':Hp} (S:ak H H') (h:D.At H):D.At H':=let ⟨a,b,c,e,l⟩:=h;⟨a,b,c,S _ _ e,l⟩
theorem Kp.of {D:Dk} (h:D.At H) (S:ak H H'):Kp D H H':=⟨λb o e _=>S b o e,h.same S⟩
theorem Kp.trans (a:Kp D H H1) (b:Kp D' H1 H2) (e:D.d=D'.d:=by rfl):Kp D' H H2:=⟨λc o h n=>b.old c o (a.old c o h (by unfold Dk.own at n ⊢;rw[e];exact n)) n,b.dk⟩
theorem Dk.At.le {D':Dk} (a:D.At H) (l:D.n<=D'.n) (e:D.d=D'.d:=by rfl):D'.At H:=by
 obtain⟨x,y,z,h,h0,h1⟩:=a;exact⟨x,y,z,by rw[<-e];exact h,h0,by omega⟩
theorem Kp.le {D':Dk} (a:Kp D H H') (l:D.n<=D'.n) (e:D.d=D'.d:=by rfl):Kp D' H H':=⟨λc o h n=>a.old c o h (by unfold Dk.own at n ⊢;rw[e];exact n),a.dk.le l e⟩
variable {o:HO} {b L l:Addr}
theorem jI {D:Dk} (DA:D.At H) (h:H b=some o) (hi:∀xs,o=.lst xs->∀i:Int,V.int i∉xs):¬D.own b:=by
 obtain⟨x,y,z,e,_⟩:=DA;intro q;cases q;rw[e]at h;exact hi _ (QH h).symm x (by simp)
theorem Kp.tups {D:Dk} (DA:D.At H) (k:Kp D H H'):aX H H':=λb xs e=>k.old b _ e (jI DA e (λ_ z=>nomatch z))
theorem mZ (ns:List Str):∀i:Int,V.int i∉ns.map V.str:=λi h=>by
 obtain⟨x,_,e⟩:=Qm.mp h;cases e
theorem m5 {xs:List V} (h:∀x∈xs,∃a,x=V.ref a):∀i:Int,V.int i∉xs:=λi hi=>by
 obtain⟨a,e⟩:=h _ hi;cases e
theorem Kp.fresh {o:HO} (DA:D.At H) (hL:H L=none) (k:Kp D H H'):Kp D H (upd H' L o):=by
 obtain⟨a0,b0,c0,e0,_⟩:=DA;obtain⟨a,b,c,e,l⟩:=k.dk;exact⟨λb u e nb=>by rw[aq (aA e hL)];exact k.old b u e nb,⟨a,b,c,by rw[aq (aA e0 hL)];exact e,l⟩⟩
theorem Kp.new {p:Addr} (k:Kp D H H') (hp:H' p=none):Kp D H (upd H' p o):=k.trans (Kp.of k.dk (aC hp))
theorem Kp.free (k:Kp D H H') (h:H' l=none):H l=none:=by
 cases e:H l with
 | none=>rfl
 | some o =>
 exfalso;by_cases c:D.own l
 ·obtain⟨a,b,z,q,_⟩:=k.dk;cases c;rw[q]at h;cases h
 rw[k.old l o e c]at h;cases h
theorem aB {D:Dk} {p:Addr} (DA:D.At H) (hp:H p=none):¬D.own p:=λz=>by
 obtain⟨a,b,c,e,_⟩:=DA;cases z;rw[e]at hp;cases hp
structure StOk (n:Nat) (z:Str):Prop where
 len:z.cps.size=n
 signs:∀c∈z.cps.toList,c=48\/c=49
theorem rZ {K:PySem.W.Frag} {tg l:Expr} {tl:TE} (h:X.K=K) (hl:PE X l tl):PI X tg l (ig K tl):=by subst h;exact aZ hl
variable {es a:List Expr}
theorem fi {K:PySem.W.Frag} {k:Nat} {t:TGs} {n:Nat} {pos:Pos} (hK:X.K=K) (hc:X.calm=true) (h:PGs X es t)
  (hn:(assignEach es X.env).length=n:=by rfl) (hst:(assignEach es X.env).findIdx? (·.1)=none:=by rfl):PG X (.Tuple es k pos) (yq K n t):=by subst hK;exact dX hc h hn hst
theorem cH {A B:TS} {D:Ends} {U:St} (J:St->Hp->Prop) (h:∀(R:St->Hp->Prop),(∀U H,J U H->R U H)->A { D with nx:=R } U H) (hJ:∀U H,J U H->B D U H):uf A B D U H:=h (B D) hJ
variable {env:Env}
theorem se_tup {n:Nat} {p:Pos}:starEach (.Tuple a n p::es) env=(false,eval (.Tuple a n p) env)::starEach es env:=by rfl
theorem se_lst {p:Pos}:starEach (.List a p::es) env=(false,eval (.List a p) env)::starEach es env:=by rfl
theorem aP {f:Expr} {k:List Keyword} {p:Pos}:starEach (.Call f a k p::es) env=(false,eval (.Call f a k p) env)::starEach es env:=by rfl
theorem aQ {c:Const} {n:Nat} {p:Pos}:starEach (.Constant c n p::es) env=(false,eval (.Constant c n p) env)::starEach es env:=by rfl
theorem ad {x:Str} {p:Pos}:starEach (.Name x p::es) env=(false,eval (.Name x p) env)::starEach es env:=by rfl
theorem se_bin {a b:Expr} {o:Operator} {p:Pos}:starEach (.BinOp a o b p::es) env=(false,eval (.BinOp a o b p) env)::starEach es env:=by rfl
theorem se_lc {a:Expr} {g:List Comprehension} {sc:Scope} {p:Pos}:starEach (.ListComp a g sc p::es) env=(false,eval (.ListComp a g sc p) env)::starEach es env:=by rfl
theorem se_sub {a b:Expr} {p:Pos}:starEach (.Subscript a b p::es) env=(false,eval (.Subscript a b p) env)::starEach es env:=by rfl
theorem aE {a:Addr} (h1:H a=some o) (h2:H b=none):b≠a:=λz=>by rw[z,h1]at h2;cases h2
theorem aV {α β:Type} {F:α->β->Prop}:∀{xs:List α} {ys:List β} {x:α} {y:β},Paired F xs ys->F x y->Paired F (xs++[x]) (ys++[y])
 | _,_,_,_,.nil,h=>.cons h .nil
 | _,_,_,_,.cons h t,g=>.cons h (aV t g)
theorem af {α β:Type} {F G:α->β->Prop} (h:∀a b,F a b->G a b):∀{xs:List α} {ys:List β},Paired F xs ys->Paired G xs ys
 | _,_,.nil=>.nil
 | _,_,.cons a t=>.cons (h _ _ a) (af h t)
theorem paired_get {α β:Type} {F:α->β->Prop}:∀{xs:List α} {ys:List β} {i:Nat} {x:α},Paired F xs ys->xs[i]?=some x->∃y,ys[i]?=some y/\F x y
 | _,_,_,_,.nil,e=>by simp at e
 | _,_,0,_,.cons r _,e=>by simp at e;subst e;exact⟨_,rfl,r⟩
 | _,_,i+1,x,.cons _ t,e=>by
  obtain⟨u,h1,h2⟩:=paired_get (i:=i) (x:=x) t (by simpa using e);exact⟨u,by simpa using h1,h2⟩
theorem bo {α β:Type} {F:α->β->Prop}:∀{xs:List α} {ys:List β} {i:Nat} {y:β},Paired F xs ys->ys[i]?=some y->∃x,xs[i]?=some x/\F x y
 | _,_,_,_,.nil,e=>by simp at e
 | _,_,0,_,.cons r _,e=>by simp at e;subst e;exact⟨_,rfl,r⟩
 | _,_,i+1,y,.cons _ t,e=>by
  obtain⟨u,h1,h2⟩:=bo (i:=i) (y:=y) t (by simpa using e);exact⟨u,by simpa using h1,h2⟩
theorem ifT {c:Bool} {A B:Prop} (hc:c=true) (h:A):if c=true then A else B:=by rw[Qs hc];exact h
theorem ifF {c:Bool} {A B:Prop} (hc:c=false) (h:B):if c=true then A else B:=by subst hc;exact iteF h
theorem bK {D:Addr} (S:ak H H') (hD:H D=none):ak H (upd H' D o):=λb u e=>by rw[aq (aA e hD)];exact S b u e
theorem ag {p:Addr} (h:H p=none) (e:upd H p o=H'):ak H H'/\H' p=some o:=by
 subst e;exact⟨aC h,ah⟩
theorem ar {α β:Type} {F:α->β->Prop}:∀{xs:List α} {ys:List β},Paired F xs ys->xs.length=ys.length
 | _,_,.nil=>rfl
 | _,_,.cons h t=>by simp[ar t]
theorem oS {K:PySem.W.Frag} (h:X.K=K) (hu:X.A.units+64<cLine):OpR X (compareOp .Eq) (mT K false):=by subst h;exact jH hu
theorem uB {K:PySem.W.Frag} (h:X.K=K) (hu:X.A.units+64<cLine):OpR X (compareOp .In) (wI K false):=by subst h;exact wQ hu
end K2
namespace K2
open PySem L2
abbrev SqLofQ:=@SqL.of
abbrev i_nilQ:=@bf
abbrev i_varQ:=@aY
abbrev iteTQ:=@b9
abbrev pa_consQ:=@aa
abbrev pa_nilQ:=@ac
abbrev pe_intQ:=@ae
abbrev pe_strQ:=@ba
abbrev pe_tupQ:=@be
abbrev pss_consQ:=@aK
abbrev pss_oneQ:=@aI
abbrev s_nameQ:=@aw
abbrev se_callQ:=@aP
abbrev se_conQ:=@aQ
abbrev se_nameQ:=@ad
local macro_rules | `(tactic| walk_at "vc") => `(tactic| first
 | ((refine' (?zz : (?zA → ?zG) → ?zA → ?zG) ?zr ?_); (case zr => with_reducible exact s_seqT); (case zz => exact fun _ q => q); intro D') | ((refine' (?zz : (?zA → ?zG) → ?zA → ?zG) ?zr ?_); (case zr => with_reducible first | exact s_asg | exact s_drop | exact s_ret | exact s_if | exact s_sub | exact s_next | exact i_c | exact i_op | exact i_test | exact i_tB | exact i_and | exact i_or | exact i_not | exact i_andV | exact i_orV | exact i_notV | exact i_ifE | exact i_nilQ | exact i_cons | exact i_cb | exact i_tup | exact i_lst | exact i_bm | exact i_sl | exact i_nopart | exact i_part | exact s_for | exact s_rng1 | exact s_list | exact s_str | exact i_dget | exact i_yes | exact i_un); (case zz => exact fun _ q => q))   | (with_reducible refine s_nameQ ?_)
 | ((with_reducible refine' i_varQ ?hv ?_); (case hv => exact rfl))   | (with_reducible first | refine i_rI0 ?_ | refine i_call ?_ | refine s_strI ?_ | refine iteF ?_ | refine iteTQ ?_ | refine i_rU ?_)
 | ((with_reducible show ∃ i, V.int _ = V.int i ∧ _); (refine ⟨_, rfl, ?_⟩)) | ((with_reducible show ∃ k, V.bl _ = V.bl k ∧ _); (refine ⟨_, rfl, ?_⟩)) | ((with_reducible show (∃ i, [V.bl _] = [V.int i] ∧ _) ∨ _); (refine Or.inr ⟨_, rfl, ?_⟩))
 | ((with_reducible refine' i_ixL ?ha ?hb ?_); (case ha => exact SqLofQ (by assumption)); (case hb => exact rfl)) | ((with_reducible refine' i_ixT ?ha ?hb ?_); (case ha => assumption); (case hb => exact rfl))
 | ((with_reducible show ∃ p _, [V.ref _] = [V.ref p] ∧ (SqL _ _ _ _ ∨ SqT _ _ _ _) ∧ _); (refine' ⟨_, _, rfl, Or.inl (SqLofQ ?ha), ?_⟩); (case ha => assumption)) | ((with_reducible refine' s_setL ?ha ?hb ?_); (case ha => assumption); (case hb => exact rfl))
 | ((with_reducible refine' i_eq ?ha ?_); (case ha => exact rfl)) | ((with_reducible refine' i_ne ?ha ?_); (case ha => exact rfl))
 | ((with_reducible show ∃ z, V.str _ = V.str z ∧ _); (refine ⟨_, rfl, ?_⟩))
 | ((with_reducible refine' i_rI ?hv ?_); (case hv => first | decide | (dsimp only; omega) | exact .inl ⟨by omega, by omega⟩ | exact .inr ⟨by omega, by omega⟩ | exact ⟨by decide, by decide⟩ | exact ⟨by decide, by decide, by decide⟩ | exact ⟨by omega, by omega⟩))
 | ((with_reducible show ∃ i, [V.int _] = [V.int i] ∧ _); (refine ⟨_, rfl, ?_⟩))
 | ((with_reducible show tyV _ "list" _ _ ∧ _); (refine' ⟨i_tyL ?ha, ?_⟩); (case ha => assumption)))
local macro_rules | `(tactic| walk_at "p") => `(tactic| repeat' (with_reducible first | (refine' pss_oneQ ?_; rotate_left 1) | (refine' pss_consQ ?_ ?_; rotate_left 2) | exact pss_nil | (refine' ps_if ?_ ?_ ?_; rotate_left 3)))
local macro_rules | `(tactic| walk_at "b") => `(tactic| (refine' pss_consQ ?_ ?_; rotate_left 2; walk_at "p"))
local macro_rules | `(tactic| walk_at "f") => `(tactic| (refine' ps_for PassesOwn.never rfl ?_ ?_ ?_ (fun _ => rfl); rotate_left 3))
local macro_rules | `(tactic| walk_at "q") => `(tactic| repeat' (with_reducible first | exact pe_strQ | exact pe_intQ | exact pa_nilQ | (refine' pe_tupQ ?_; rotate_left 1) | (refine' pe_lst ?_; rotate_left 1) | (refine' pa_consQ ?_ ?_ se_conQ; rotate_left 2) | (refine' pa_consQ ?_ ?_ se_tup; rotate_left 2) | (refine' pa_consQ ?_ ?_ se_nameQ; rotate_left 2) | (refine' pa_consQ ?_ ?_ se_sub; rotate_left 2) | (refine' pa_consQ ?_ ?_ se_bin; rotate_left 2) | (refine' pa_consQ ?_ ?_ se_lst; rotate_left 2) | (refine' pa_consQ ?_ ?_ se_callQ; rotate_left 2) | (refine' pa_consQ ?_ ?_ se_lc; rotate_left 2)))
local macro_rules | `(tactic|room) => `(tactic| (intro vs H Q E h; repeat (first | (obtain ⟨e, _⟩ := h; subst e; rfl) | (obtain ⟨_, h⟩ := h))))
local macro_rules | `(tactic|x_go) => `(tactic| ((try dsimp only [cxOf, Cx.nox, Cx.wish]); (conv in (L2.start _ _) => simp only [L2.start, Qt, List.map_nil, Xh, List.length_nil, List.replicate_succ, List.replicate_zero, List.cons_append, List.nil_append, Nat.reduceAdd, Nat.reduceSub]); have big : 100000 < sizeLine := by decide))
local macro_rules | `(tactic|kt_k) => `(tactic| (with_reducible first | refine s_seq ?_ | refine s_if ?_ | refine s_next ?_ | refine i_or ?_ | refine s_nameQ ?_ | refine s_ret ?_))
local macro_rules|`(tactic|lk)=>`(tactic|repeat walk_at "vc")
local macro_rules|`(tactic|fin2)=>`(tactic|exact⟨rfl,rfl,rfl,by decide +kernel,rfl,by decide +kernel,by decide +kernel⟩)
def sg (b:Bool):V:=if b then .str "1" else .str "0"
variable {i n c j:Nat} {z row row':Str}
theorem oA (st:StOk n z) (hi:i<n):fX z i=sg (z.cps.getD i 0==49):=by
 have hl:=st.len;have e:z.cps.getD i 0=z.cps[i]'(by omega):=by simp[Array.getD,hl,hi]
 have:z.cps.getD i 0=48\/z.cps.getD i 0=49:=by
  rw[e];exact st.signs _ (by simp)
 unfold fX;rcases this with e|e
 ·rw[e];decide +kernel
 rw[e];decide +kernel
def bS (z:Str) (i:Nat):Str:=if (z.cps.getD i 0==49)=true then "0" else "1"
def bc (z:Str) (i:Nat):Str:=(Txt.slice z none (some (i:Int))++bS z i)++Txt.slice z (some ((i:Int)+1)) none
def kN:Sp:=λvs H Q _=>∃(z:Str) (n i:Nat),vs=[.str z,.int (i:Int)]/\StOk n z/\i<n/\n<=11/\Q (.str (bc z i)) H
variable {P:Program} {w:World} {K:PySem.W.Frag} {mg:A2} {base:Heap} {TT:Addr}
section
theorem j_ {n:Nat} {z:Str} (st:StOk n z) {i:Nat} (hi:i<n):atI z.cps.toList ((i:Nat):Int)=some (z.cps.getD i 0):=by
 have hl:=st.len;refine cw ?_;simp[Array.getD,hl,hi]
theorem jA:FnScope ["standing", "place"] ["standing", "place"] (av (top 10)):=by fin2
theorem qp {f:Addr} {fd:FuncData} (Fu:Fun K "turned_at" "turned_at" (top 10) f fd) (T:Txt K mg TT):FnOk P w K mg base CX0 1 f fd ["standing", "place"] kN:=by
 have S:=jA;refine Fu.ok S (by room) (λcdv A outer s H vs Q E hr h=>?_);obtain⟨z,n,i,rfl,st,hi,hn,k⟩:=h;refine⟨_,(aI (aD (aM bM (aM bM (cq eV (pv 0) cP (cO (pv 1))) (aj (uX T.tab) (c8 (v:=.ref TT) (by rfl) T.tURNED rfl) (aj cX (pv 0) (pv 1)))) (cq eV (pv 0) (cO (aM cA (pv 1) ae)) cP)))),?_⟩;x_go;have hz:z.length=n:=st.len;have big:1000<sizeLine:=by decide
 lk;have s1:=Txt.slice_le z none (some (i:Int));have s2:=Txt.slice_le z (some ((i:Int)+1)) none
 have fl:(bS z i).length=1:=by
  unfold bS
  split
  ·decide +kernel
  decide +kernel
 refine ie (by omega) ?_;refine i_op (i_c ?_);refine i_op (aY rfl (aY rfl (eL (by omega) (j_ st hi) ?_)));have e:=oA st hi;unfold fX at e;rw[e]
 have step:∀(b:Bool) (G:VK),G (.str (if b=true then "0" else "1")) H->oF TT (.ref TT) (sg b) H G:=λb G g=>by
  cases b
  ·exact⟨rfl,.inl ⟨rfl,g⟩⟩
  exact⟨rfl,.inr ⟨rfl,g⟩⟩
 refine step _ _ ?_;show ∃i_1 j,V.str _=V.str i_1/\V.str (bS z i)=V.str j/\_;have l1:(Txt.slice z none (some (i:Int))++bS z i).length=(Txt.slice z none (some (i:Int))).length+(bS z i).length:=Array.size_append;refine⟨_,_,rfl,rfl,by omega,?_⟩;lk;refine ie (by omega) ?_;exact⟨_,_,rfl,rfl,by rw[l1];omega,k⟩
end
theorem ii {xs:Array Nat}:∀(j a:Nat),a+j<=xs.size->((List.range j).map λk=>a+k).filterMap (xs[·]?)=(xs.toList.drop a).take j
 | 0,a,_=>by simp
 | j+1,a,h=>by
  rw[List.range_succ,QI,List.filterMap_append,ii j a (by omega),List.take_succ];have e:(xs.toList.drop a)[j]?=xs[a+j]?:=by rw[List.getElem?_drop];simp
  rw[e];have q:xs[a+j]?=some (xs[a+j]'(by omega)):=by rw[QG]
  simp[q]
theorem gA {a b:Nat} {lo hi:Option Int} (hl:PySem.Builtin.Str.strSliceIndices lo hi 1 z.length=(List.range (b-a)).map λk=>a+k) (hb:b<=z.cps.size) (hab:a<=b):(Txt.slice z lo hi).cps.toList=(z.cps.toList.drop a).take (b-a):=by
 unfold Txt.slice;rw[hl]
 split
 ·rename_i h
  have h:b-a=z.length:=by simpa using h
  have h':z.length=z.cps.size:=rfl;have a0:a=0:=by omega
  subst a0;rw[List.drop_zero,Xc (by rw[Qg];omega)]
 exact ii (b-a) a (by omega)
theorem ff {z:Str} {j:Nat} (h:j<=z.cps.size):(Txt.slice z none (some (j:Int))).cps.toList=z.cps.toList.take j:=by
 have h':z.length=z.cps.size:=rfl;refine(gA (a:=0) (b:=j) ?_ h (QU _)).trans (by simp);unfold PySem.Builtin.Str.strSliceIndices sliceRange
 have e:max 0 (min (if (j:Int)<0 then (j:Int)+z.length else (j:Int)) (z.length:Int))=(j:Int):=by
  rw[Qq (Int.not_lt.mpr (Int.natCast_nonneg _)),Int.min_eq_left (show _<=(z.length:Int) from Int.ofNat_le.mpr h),Int.max_eq_right (Int.natCast_nonneg _)]
 simp only[show (1:Int)>0 from by decide,if_true,e]
 have c:(if (0:Int)<(j:Int) then ((j:Int)-0+1-1) / 1 else 0).toNat=j-0:=by
  rw[Int.ediv_one,Int.add_sub_cancel,Int.sub_zero,Nat.sub_zero]
  split
  ·rfl
  omega
 rw[c];refine XW λk _=>?_;omega
theorem eT {z:Str} {a:Nat} (h:a<=z.cps.size):(Txt.slice z (some (a:Int)) none).cps.toList=z.cps.toList.drop a:=by
 have h':z.length=z.cps.size:=rfl;refine(gA (a:=a) (b:=z.cps.size) ?_ (Qj _) h).trans (by rw[Xc (by rw[XI,Qg];omega)]);unfold PySem.Builtin.Str.strSliceIndices sliceRange
 have e:max 0 (min (if (a:Int)<0 then (a:Int)+z.length else (a:Int)) (z.length:Int))=(a:Int):=by
  rw[Qq (Int.not_lt.mpr (Int.natCast_nonneg _)),Int.min_eq_left (show _<=(z.length:Int) from Int.ofNat_le.mpr h),Int.max_eq_right (Int.natCast_nonneg _)]
 simp only[show (1:Int)>0 from by decide,if_true,e]
 have c:(if (a:Int)<(z.length:Int) then ((z.length:Int)-(a:Int)+1-1) / 1 else 0).toNat=z.cps.size-a:=by
  rw[Int.ediv_one,Int.add_sub_cancel,h']
  split
  ·rw[<-Int.ofNat_sub h];rfl
  omega
 rw[c];refine XW λk _=>?_;omega
theorem cN (st:StOk n z) (hi:i<n):StOk n (bc z i):=by
 have hl:=st.len;have a:=ff (z:=z) (j:=i) (by omega);have b:=eT (z:=z) (a:=i+1) (by omega);rw[show ((i+1:Nat):Int)=(i:Int)+1 from by omega]at b
 have f:(bS z i).cps.toList=[48]\/(bS z i).cps.toList=[49]:=by
  unfold bS
  split
  ·exact .inl (by decide +kernel)
  exact .inr (by decide +kernel)
 have e:(bc z i).cps.toList=(z.cps.toList.take i++(bS z i).cps.toList)++z.cps.toList.drop (i+1):=by
  unfold bc;show ((_++_)++_:Array Nat).toList=_;rw[Array.toList_append,Array.toList_append,a,b]
 refine⟨?_,λc hc=>?_⟩
 ·rw[<-Qg,e,Qh,Qh,QM,XI,Qg];have:(bS z i).cps.toList.length=1:=by rcases f with f|f <;> rw[f] <;> rfl
  omega
 rw[e]at hc;rcases Qw.mp hc with h|h
 ·rcases Qw.mp h with h|h
  ·exact st.signs c (List.mem_of_mem_take h)
  rcases f with f|f
  ·rw[f]at h;exact .inl (by simpa using h)
  rw[f]at h;exact .inr (by simpa using h)
 exact st.signs c (List.mem_of_mem_drop h)
theorem turn_list (st:StOk n z) (hi:i<n):(bc z i).cps.toList=z.cps.toList.take i++(if (z.cps.getD i 0==49)=true then 48 else 49)::z.cps.toList.drop (i+1):=by
 have hl:=st.len;have a:=ff (z:=z) (j:=i) (by omega);have b:=eT (z:=z) (a:=i+1) (by omega);rw[show ((i+1:Nat):Int)=(i:Int)+1 from by omega]at b
 have f:(bS z i).cps.toList=[if (z.cps.getD i 0==49)=true then 48 else 49]:=by
  unfold bS
  split
  ·decide +kernel
  decide +kernel
 unfold bc;show ((_++_)++_:Array Nat).toList=_;rw[Array.toList_append,Array.toList_append,a,b,f];simp
theorem gr (st:StOk n z) (hi:i<n):bc (bc z i) i=z:=by
 have hl:=st.len;have e1:=turn_list st hi;have e2:=turn_list (cN st hi) hi;have hz:i<z.cps.toList.length:=by rw[Qg];omega
 have lt:(z.cps.toList.take i).length=i:=by rw[QM];omega
 have gz:z.cps.getD i 0=z.cps.toList[i]:=by rw[QW,<-QV,Qd hz];rfl
 have gy:(bc z i).cps.getD i 0=if (z.cps.getD i 0==49)=true then 48 else 49:=by
  rw[QW,<-QV,e1,Xf (by omega),lt];simp
 have t1:(bc z i).cps.toList.take i=z.cps.toList.take i:=by rw[e1,List.take_append_of_le_length (by omega),Xc (by omega)]
 have t2:(bc z i).cps.toList.drop (i+1)=z.cps.toList.drop (i+1):=by
  rw[e1,List.drop_append,lt];simp;omega
 rw[t1,t2,gy]at e2;have sg:=st.signs z.cps.toList[i] (Xi hz)
 have e3:(if ((if (z.cps.getD i 0==49)=true then 48 else 49)==49)=true then 48 else 49)=z.cps.toList[i]:=by
  rw[gz];rcases sg with s|s <;> rw[s] <;> rfl
 rw[e3,<-List.drop_eq_getElem_cons hz,List.take_append_drop]at e2;have:(bc (bc z i) i).cps=z.cps:=Array.toList_inj.mp e2;cases h:bc (bc z i) i;cases z;rw[h]at this;exact congrArg Str.mk this
variable {b l a li L nl q d:Addr} {H H' H1 H2 H0:Hp}
theorem bN (S:ak H H') (h:H' b=none):H b=none:=by
 cases e:H b with
 | none=>rfl
 | some o=>rw[S b o e]at h;cases h
variable {xs vs ys:List V}
theorem bO {D:Addr} {o:HO} (h:H D=some (.lst xs)):aX H (upd H D o):=λb ys e=>by
 rw[aq (λz=>by rw[z,h]at e;cases e)];exact e
section
variable {α β:Type} {K:PySem.W.Frag} {J:It} {H1:Hp} {D:Addr} {σ0:St} {g:TG} {te:TE} {tt:L2.TT} {QD:Hp->Prop}
theorem cm (xs:List α) (c:α->Bool) (R:Hp->V->α->Prop) (hD:H1 D=none) (few:xs.length<=100000) (mono:∀H H' v x,aX H H'->R H v x->R H' v x)
  (go:∀i H,ak H1 H->i<xs.length->J.go i H) (stop:∀H,ak H1 H->J.stop xs.length H)
  (hs:∀i x H v H',xs[i]?=some x->ak H1 H->J.yld i H v H'->∀(G:V->Hp->Prop) (N:Hp->Prop),(c x=true->∀u H2,ak H H2->R H2 u x->G u H2)->(c x=false->∀H2,ak H H2->N H2)->g v σ0 H' λσ2 H2=>wk σ0 σ2/\tt σ2 H2 λb H3=>if b=true then te σ2 H3 G else N H3)
  (hd:∀H ys,ak H1 H->H D=some (.lst ys)->Paired (R H) ys (xs.filter c)->QD H) :
  ∃W:Nat->Nat->Hp->List V->Prop,(∃m,W 0 m (upd H1 D (.lst [])) [])/\∀i m H ys,W i m H ys->H D=some (.lst ys)/\((J.stop i H/\QD H)\/(J.go i H/\∀x H',J.yld i H x H'->g x σ0 H' λσ2 H2=>wk σ0 σ2/\tt σ2 H2 λb H3 =>
   if b=true then te σ2 H3 λv H4=>H4 D=some (.lst ys)/\ys.length<sizeLine/\∃m',m'<m/\W (i+1) m' (upd H4 D (.lst (ys++[v]))) (ys++[v]) else ∃m',m'<m/\W (i+1) m' H3 ys)):=by
 refine⟨λi m H ys=>m=xs.length-i/\i<=xs.length/\ak H1 H/\H D=some (.lst ys)/\Paired (R H) ys ((xs.take i).filter c),⟨_,rfl,QU _,aC hD,ah,by rw[List.take_zero];exact .nil⟩,?_⟩;rintro i m H ys ⟨rfl,hi,S,hy,p⟩;refine⟨hy,?_⟩;by_cases hl:i<xs.length
 ·refine .inr ⟨go i H S hl,λv H' y=>?_⟩;have ex:xs[i]?=some xs[i]:=Qd hl;have hm:xs.length-(i+1)<xs.length-i:=by omega
  refine hs i xs[i] H v H' ex S y _ _ (λct u H2 S2 r=>?_) (λcf H2 S2=>?_)
  ·have yl:ys.length<=xs.length:=by
    rw[ar p];refine QK (List.length_filter_le _ _) ?_;rw[QM];omega
   have hy2:=S2 _ _ hy;have kt:=bO (o:=.lst (ys++[u])) hy2;refine⟨hy2,X3 yl (X3 few (by decide)),_,hm,rfl,hl,bK (S.trans S2) hD,ah,?_⟩;rw[List.take_succ,ex,List.filter_append];have e:(some xs[i]).toList.filter c=[xs[i]]:=by simp[ct]
   rw[e];exact aV (af (λv x r=>mono _ _ v x kt (mono _ _ v x (ak.tups S2) r)) p) (mono _ _ u _ kt r)
  refine⟨_,hm,rfl,hl,S.trans S2,S2 _ _ hy,?_⟩;rw[List.take_succ,ex,List.filter_append];have e:(some xs[i]).toList.filter c=[]:=by simp[cf]
  rw[e,List.append_nil];exact af (λv x r=>mono _ _ v x (ak.tups S2) r) p
 obtain rfl:i=xs.length:=by omega
 rw[Xc (Qj _)]at p;exact .inl ⟨stop H S,hd H ys S hy p⟩
variable {vs:List V} {a b:Addr}
theorem cv {xs:List α} {I:V->α->Prop} (c:α->Bool) (R:Hp->V->α->Prop) (hD:H1 D=none) (e:H1 a=some (.lst vs)) (pa:Paired I vs xs) (few:xs.length<=100000) (mono:∀H H' v x,aX H H'->R H v x->R H' v x)
  (hs:∀v x H,I v x->x∈xs->ak H1 H->∀(G:V->Hp->Prop) (N:Hp->Prop),(c x=true->∀u H2,ak H H2->R H2 u x->G u H2)->(c x=false->∀H2,ak H H2->N H2)->g v σ0 H λσ2 H2=>wk σ0 σ2/\tt σ2 H2 λb H3=>if b=true then te σ2 H3 G else N H3)
  (hd:∀H ys,ak H1 H->H D=some (.lst ys)->Paired (R H) ys (xs.filter c)->QD H) :
  ∃W:Nat->Nat->Hp->List V->Prop,(∃m,W 0 m (upd H1 D (.lst [])) [])/\∀i m H ys,W i m H ys->H D=some (.lst ys)/\(((Itl K a).stop i H/\QD H)\/((Itl K a).go i H/\∀x H',(Itl K a).yld i H x H'->g x σ0 H' λσ2 H2=>wk σ0 σ2/\tt σ2 H2 λb H3 =>
   if b=true then te σ2 H3 λv H4=>H4 D=some (.lst ys)/\ys.length<sizeLine/\∃m',m'<m/\W (i+1) m' (upd H4 D (.lst (ys++[v]))) (ys++[v]) else ∃m',m'<m/\W (i+1) m' H3 ys)):=by
 have l:=ar pa;refine cm xs c R hD few mono (λi H S hi=>⟨vs,vs[i],SqL.of (S _ _ e),Qd _⟩) (λH S=>⟨vs,SqL.of (S _ _ e),by omega⟩) (λi x H v H' ex S y=>?_) hd;obtain⟨e',y⟩:=y;subst e';obtain⟨v',ev,r⟩:=bo pa ex;cases ev.symm.trans (y vs (SqL.of (S _ _ e)));exact hs v x _ r (Ql ex) S
def Sqv (t:Bool) (H:Hp) (a:Addr) (vs:List V):Prop:=if t=true then H a=some (.tup vs) else H a=some (.lst vs)
theorem Sqv.of {t:Bool} {H:Hp} (h:Sqv t H a vs):SqS t K H a vs:=by
 cases t with
 | true=>exact SqT.of h
 | false=>exact SqL.of h
theorem Sqv.same {t:Bool} {H H':Hp} (S:ak H H') (h:Sqv t H a vs):Sqv t H' a vs:=by
 cases t with
 | true=>exact S _ _ h
 | false=>exact S _ _ h
theorem tX {t1 t2:Bool} {ws:List V} {xs:List α} {us:List β} {I1:V->α->Prop} {I2:V->β->Prop} (c:α × β->Bool) (R:Hp->V->α × β->Prop) (hD:H1 D=none) (e1:Sqv t1 H1 a vs) (e2:Sqv t2 H1 b ws) (p1:Paired I1 vs xs) (p2:Paired I2 ws us) (hl:xs.length=us.length) (few:xs.length<=100000) (mono:∀H H' v x,aX H H'->R H v x->R H' v x)
  (hs:∀v x w u T H,I1 v x->I2 w u->(x,u)∈xs.zip us->ak H1 H->H T=some (.tup [v,w])->∀(G:V->Hp->Prop) (N:Hp->Prop),(c (x,u)=true->∀y H2,ak H H2->R H2 y (x,u)->G y H2)->(c (x,u)=false->∀H2,ak H H2->N H2)->g (.ref T) σ0 H λσ2 H2=>wk σ0 σ2/\tt σ2 H2 λb H3=>if b=true then te σ2 H3 G else N H3)
  (hd:∀H ys,ak H1 H->H D=some (.lst ys)->Paired (R H) ys ((xs.zip us).filter c)->QD H) :
  ∃W:Nat->Nat->Hp->List V->Prop,(∃m,W 0 m (upd H1 D (.lst [])) [])/\∀i m H ys,W i m H ys->H D=some (.lst ys)/\(((t9 t1 t2 K a b).stop i H/\QD H)\/((t9 t1 t2 K a b).go i H/\∀x H',(t9 t1 t2 K a b).yld i H x H'->g x σ0 H' λσ2 H2=>wk σ0 σ2/\tt σ2 H2 λb H3 =>
   if b=true then te σ2 H3 λv H4=>H4 D=some (.lst ys)/\ys.length<sizeLine/\∃m',m'<m/\W (i+1) m' (upd H4 D (.lst (ys++[v]))) (ys++[v]) else ∃m',m'<m/\W (i+1) m' H3 ys)):=by
 have l1:=ar p1;have l2:=ar p2;have lz:(xs.zip us).length=xs.length:=by rw[List.length_zip];omega
 refine cm (xs.zip us) c R hD (by omega) mono (λi H S hi=>⟨⟨vs,vs[i],(e1.same S).of,Qd _⟩,ws,ws[i],(e2.same S).of,Qd _⟩) (λH S=>⟨vs,(e1.same S).of,by omega⟩) (λi x H v H' ex S y=>?_) hd;obtain⟨T,v',w',hT,ex',eH,y1,y2⟩:=y;subst ex' eH;obtain⟨x,u⟩:=x;obtain⟨g1,g2⟩:=Xy.mp ex;obtain⟨v1,ev1,r1⟩:=bo p1 g1;obtain⟨w1,ew1,r2⟩:=bo p2 g2;cases ev1.symm.trans (y1 vs (e1.same S).of);cases ew1.symm.trans (y2 ws (e2.same S).of);intro G N hG hN;have ST:=aC (o:=.tup [v',w']) hT;exact hs v' x w' u T _ r1 r2 (Ql ex) (S.trans ST) ah G N (λct y H2 S2 r=>hG ct y H2 (ST.trans S2) r) (λcf H2 S2=>hN cf H2 (ST.trans S2))
end
abbrev Tu:=Str × Str
structure Arc where
 one:Tu
 two:Tu
 mark:Int
structure Rg where
 ins:List Str
 outs:List Str
 z:Str
 arcs:List Arc
def Rg.ws (r:Rg):List Str:=r.ins++r.outs
def bt (ws:List Str) (t:Tu):Prop:=t.1∈ws/\(t.2 = "+" \/ t.2 = "-")
structure ArOk (ws:List Str) (a:Arc):Prop where
 o:bt ws a.one
 t:bt ws a.two
 ne:a.one≠a.two
 m:a.mark=0\/a.mark=1
structure RgOk (r:Rg):Prop where
 nd:r.ws.Nodup
 w1:1<=r.ws.length
 w5:r.ws.length<=5
 st:StOk r.ws.length r.z
 few:r.arcs.length<=1000
 arcs:∀a∈r.arcs,ArOk r.ws a
def TuA (H:Hp) (v:V) (t:Tu):Prop:=∃b,v=.ref b/\H b=some (.tup [.str t.1,.str t.2])
def ArA (H:Hp) (v:V) (a:Arc):Prop:=∃b v1 v2,v=.ref b/\H b=some (.tup [v1,v2,.int a.mark])/\TuA H v1 a.one/\TuA H v2 a.two
variable {v u:V}
theorem TuA.kt {t:Tu} (k:aX H H') (h:TuA H v t):TuA H' v t:=let ⟨b,e,q⟩:=h;⟨b,e,k _ _ q⟩
theorem ArA.kt {a:Arc} (k:aX H H') (h:ArA H v a):ArA H' v a:=let ⟨b,v1,v2,e,q,h1,h2⟩:=h;⟨b,v1,v2,e,k _ _ q,h1.kt k,h2.kt k⟩
structure ArsA (H:Hp) (l:Addr) (vs:List V) (as:List Arc):Prop where
 h:H l=some (.lst vs)
 p:Paired (ArA H) vs as
variable {as as':List Arc}
theorem ArsA.same {H':Hp} (S:ak H H') (h:ArsA H l vs as):ArsA H' l vs as:=⟨S _ _ h.h,af (λ_ _ q=>q.kt (ak.tups S)) h.p⟩
structure RgA (H:Hp) (a li lo l:Addr) (vs:List V) (r:Rg):Prop where
 ha:H a=some (.tup [.ref li,.ref lo,.str r.z,.ref l])
 hi:H li=some (.lst (r.ins.map V.str))
 ho:H lo=some (.lst (r.outs.map V.str))
 arcs:ArsA H l vs r.arcs
variable {r r':Rg}
theorem RgA.same {H':Hp} {lo:Addr} (S:ak H H') (h:RgA H a li lo l vs r):RgA H' a li lo l vs r:=⟨S _ _ h.ha,S _ _ h.hi,S _ _ h.ho,h.arcs.same S⟩
def tk2 (t:Tu):ax:=[.inl (.inr t.1),.inl (.inr t.2)]
variable {x y:Tu}
theorem gg (h:tk2 x=tk2 y):x=y:=by
 unfold tk2 at h;simp only[List.cons.injEq,Sum.inl.injEq,Sum.inr.injEq]at h;exact Prod.ext h.1 h.2.1
theorem TuA.tk {t:Tu} (h:TuA H (.ref b) t):bH H (tk2 t) b:=by
 obtain⟨_,e,q⟩:=h;cases e;exact⟨_,q,.cons rfl (.cons rfl .nil)⟩
theorem TuA.of {t:Tu} (h:bH H (tk2 t) b):TuA H (.ref b) t:=by
 obtain⟨vs,q,p⟩:=h
 cases p with
 | cons r1 p=>cases p with
  | cons r2 p =>
   cases p;cases r1;cases r2;exact⟨b,rfl,q⟩
variable {Q G:VK}
theorem eY {K:PySem.W.Frag} {neg:Bool} (h1:TuA H u x) (h2:TuA H v y) (q:Q (.bl (if neg=true then !decide (x=y) else decide (x=y))) H):mT K neg u v H Q:=by
 obtain⟨a,e,_⟩:=id h1;subst e;obtain⟨b,e,_⟩:=id h2;subst e;refine yk h1.tk h2.tk rfl ?_;have e:decide (tk2 x=tk2 y)=decide (x=y):=decide_eq_decide.mpr ⟨gg,λh=>by rw[h]⟩;rw[e];exact q
variable {ts ts' way:List Tu}
theorem wo (h:Paired (TuA H) vs ts):∃bs:A3,vs=bs.map V.ref/\KsA H bs (ts.map tk2):=by
 induction h with
 | nil=>exact⟨[],rfl,.nil⟩
 | @cons v t _ _ r _ ih =>
 obtain⟨bs,e,p⟩:=ih;obtain⟨b,e1,q⟩:=id r;subst e1;exact⟨b::bs,by rw[e];rfl,.cons r.tk p⟩
variable {ks us:List ax}
theorem w4 {bs:A3} (h:KsA H bs ks) (hk:∀k∈ks,∃t,k=tk2 t):∃ts:List Tu,ks=ts.map tk2/\Paired (TuA H) (bs.map V.ref) ts:=by
 induction h with
 | nil=>exact⟨[],rfl,.nil⟩
 | @cons b k _ _ r _ ih =>
 obtain⟨ts,e,p⟩:=ih λk hk'=>hk k (Qu _ hk');obtain⟨t,rfl⟩:=hk k (by simp);exact⟨t::ts,by rw[e];rfl,.cons (TuA.of r) p⟩
theorem ul (ts:List Tu):rb true (ts.map tk2):=by
 refine⟨λx hx y hy=>?_,λx hx=>?_⟩
 ·obtain⟨t,_,rfl⟩:=Qm.mp hx;obtain⟨u,_,rfl⟩:=Qm.mp hy;rfl
 obtain⟨t,_,rfl⟩:=Qm.mp hx;exact⟨_,_,rfl⟩
def leT (x y:Tu):Prop:=leF (tk2 x) (tk2 y)
theorem lL (h1:leT x y) (h2:leT y x):x=y:=by
 have h:=Tm.h_ h1 h2;have:[Sum.inr x.1,Sum.inr x.2]=([Sum.inr y.1,Sum.inr y.2]:List Key):=h;simp only[List.cons.injEq,Sum.inr.injEq]at this;exact Prod.ext this.1 this.2.1
structure WtOk (P:Tu->Prop) (ts:List Tu):Prop where
 nd:ts.Nodup
 mem:∀x,x∈ts↔P x
 so:ts.Pairwise leT
theorem eS {α:Type} {le:α->α->Prop} (anti:∀x y,le x y->le y x->x=y):∀{xs ys:List α},xs.Nodup->ys.Nodup->(∀x,x∈xs↔x∈ys)->xs.Pairwise le->ys.Pairwise le->xs=ys
 | [],[],_,_,_,_,_=>rfl
 | [],y::_,_,_,m,_,_=>absurd ((m y).mpr (by simp)) (by simp)
 | x::_,[],_,_,m,_,_=>absurd ((m x).mp (by simp)) (by simp)
 | x::xs,y::ys,n1,n2,m,s1,s2=>by
  rw[QS]at n1 n2;rw[List.pairwise_cons]at s1 s2
  have e:x=y:=by
   rcases Qk.mp ((m x).mp (by simp)) with h|h
   ·exact h
   rcases Qk.mp ((m y).mpr (by simp)) with h'|h'
   ·exact h'.symm
   exact anti _ _ (s1.1 _ h') (s2.1 _ h)
  subst e;refine congrArg (x::·) (eS anti n1.2 n2.2 (λz=>?_) s1.2 s2.2);have:=m z;by_cases c:z=x
  ·subst c;exact⟨λh=>absurd h n1.1,λh=>absurd h n2.1⟩
  simpa[c] using this
theorem WtOk.one {P P':Tu->Prop} {us:List Tu} (h:WtOk P ts) (g:WtOk P' us) (e:∀x,P x↔P' x):ts=us :=
 eS (λ_ _=>lL) h.nd g.nd (λx=>(h.mem x).trans ((e x).trans (g.mem x).symm)) h.so g.so
def kP:Sp:=λvs H Q _=>∃(a li lo l:Addr) (as:List V) (r:Rg) (row nm:Str),vs=[.ref a,.str row,.str nm]/\RgA H a li lo l as r/\RgOk r/\StOk r.ws.length row/\nm∈r.ws/\∀H',ak H H'->Q (.str (bc row (r.ws.idxOf nm))) H'
def mL:Sp:=λvs H Q _=>∃(l:Addr) (as:List V) (r:Rg),vs=[.ref l]/\ArsA H l as r.arcs/\RgOk r/\∀p vs ts H',ak H H'->H p=none->H' p=some (.lst vs)->Paired (TuA H') vs ts->WtOk (λt=>∃a∈r.arcs,a.two=t) ts->Q (.ref p) H'
def mks (as:List Arc):List Int:=as.map (·.mark)
def oo:Sp:=λvs H Q _=>∃(l:Addr) (as:List V) (r:Rg),vs=[.ref l]/\ArsA H l as r.arcs/\RgOk r/\∀p H',ak H H'->H' p=some (.tup ((mks r.arcs).map V.int))->Q (.ref p) H'
theorem ic {ws:List Str} {x:Str} (h:x∈ws):ws[ws.idxOf x]?=some x:=by
 have hi:=QO h;rw[Qd hi];exact congrArg some (List.getElem_idxOf hi)
theorem fP {ws:List Str} {x:Str}:∀m,m<ws.idxOf x->ws[m]?≠some x:=λm hm e=>by
 have h1:=List.not_of_lt_findIdx (xs:=ws) (p:=(·==x)) (i:=m) hm;obtain⟨h2,e2⟩:=Qf.mp e;rw[e2]at h1;simp at h1
variable {α β:Type}
theorem bB (xs:List α):xs.filter (λ_=>true)=xs:=List.filter_eq_self.mpr (by simp)
theorem bw {α β γ:Type} {F:α->γ->Prop} {f:β->γ}:∀{xs:List α} {ys:List β},Paired (λx y=>F x (f y)) xs ys->Paired F xs (ys.map f)
 | _,_,.nil=>.nil
 | _,_,.cons h t=>.cons h (bw t)
theorem cQ {α β:Type} {f:β->α}:∀{xs:List α} {ys:List β},Paired (λx y=>x=f y) xs ys->xs=ys.map f
 | _,_,.nil=>rfl
 | _,_,.cons h t=>by rw[h,cQ t];rfl
theorem u6 (ok:RgOk r) (nd:us.Nodup) (h:∀x∈us,x∈(r.arcs.map (·.two)).map tk2):us.length<64:=by
 have:=Bf.pigeon us ((r.ws.map λn=>tk2 (n, "+"))++(r.ws.map λn=>tk2 (n, "-"))) nd λx hx=>by
  have hx:=h x hx;rw[Xm]at hx;obtain⟨a,ha,rfl⟩:=Qm.mp hx;obtain⟨h1,h2⟩:=(ok.arcs a ha).t;refine Qw.mpr ?_;rcases h2 with e|e
  ·exact .inl (Qm.mpr ⟨_,h1,by show tk2 _=tk2 _;rw[<-e]⟩)
  exact .inr (Qm.mpr ⟨_,h1,by show tk2 _=tk2 _;rw[<-e]⟩)
 rw[Qh,Qc,Qc]at this;have:=ok.w5;omega
variable {U σ0:St} {ta:TA}
theorem nC {K:PySem.W.Frag} (q:ta U H λvs H1=>∃(ks:List ax) (b:Bool),iA K H1 vs ks/\rb b ks/\∀(p:Addr) (bs':A3) (us:List ax),H1 p=none->KsA H1 bs' us->us.Nodup->(∀x,x∈us↔x∈ks)->us.Pairwise leF->Q (.ref p) (upd H1 p (.lst (bs'.map V.ref)))):iP K ta U H Q:=q
section
theorem iE:FnScope ["sheet", "row", "name"] ["sheet", "row", "name"] (av (top 14)):=by fin2
variable {fd:FuncData}
theorem qt {f:Addr} (Fu:Fun K "row_behind" "row_behind" (top 14) f fd) (T:Txt K mg TT) (f_turned_at:Fn P w K mg base "turned_at" ["standing", "place"] 1 kN):FnOk P w K mg base CX0 2 f fd ["sheet", "row", "name"] kP:=by
 have S:=iE;refine Fu.ok S (by room) (λcdv A outer s H vs Q E hr h=>?_);obtain⟨a,li,lo,l,as,sh,row,nm,rfl,at_,ok,st,hnm,k⟩:=h;refine⟨_,(aI (aD (aJ f_turned_at hr (aa (pv 1) (aa (bR QE Xv Xw gY (aM dh (aj au (pv 0) ae) (aj au (pv 0) ae)) (aa (pv 2) ac ad)) ac aP) ad)))),?_⟩;x_go;have lw:(sh.ins.map V.str).length+(sh.outs.map V.str).length=sh.ws.length:=by rw[Qc,Qc];unfold Rg.ws;rw[Qh]
 have ha:=at_.ha;have w5:=ok.w5;lk;refine eM at_.hi at_.ho (by rw[lw];omega) λp hp=>?_;rw[<-QI];show tyV K "list" (.ref p) _/\_;refine⟨i_tyL ah,?_⟩;lk;refine⟨p,sh.ws,nm,sh.ws.idxOf nm,rfl,rfl,ah,ic hnm,fP,by omega,?_⟩;lk;exact⟨row,_,_,rfl,st,QO hnm,by omega,k _ (aC hp)⟩
theorem fD:FnScope ["arcs"] ["arcs"] (av (top 20)):=by fin2
theorem uE {f:Addr} (Fu:Fun K "waiting_turns" "waiting_turns" (top 20) f fd) (T:Txt K mg TT):FnOk P w K mg base CX0 2 f fd ["arcs"] mL:=by
 have S:=fD;refine Fu.ok S (by room) (λcdv A outer s H vs Q E hr h=>?_);obtain⟨l,as,r,rfl,at_,ok,k⟩:=h;have hu:=cY hr;refine⟨_,(aI (aD (lj rfl hu (by rfl) T.n_sorted (by rfl) T.n_set (aa (c7 "arc" [] (aZ (pv 0)) (λ_ _ _ _=>(aj (bP (K:=K) rfl) (pv 0) ae))) ac)))),?_⟩;x_go;lk;refine nC (i_cons (bx (s_list (aY rfl ⟨l,rfl,⟨_,SqL.of at_.h⟩,λD hD=>?_⟩))));refine cv (λ_=>true) (λH v (a:Arc)=>TuA H v a.two) hD at_.h at_.p (QK ok.few (by decide)) (λH H' v x k h=>h.kt k) (λv x H' ia mx S' G N hG _=>?_) (λH' ys S' hy p=>?_)
 ·obtain⟨b,v1,v2,rfl,hb,t1,t2⟩:=ia.kt (ak.tups S');refine aw ⟨trivial,i_yes (b9 ?_)⟩;lk;exact hG rfl _ H' (ak.refl _) t2
 rw[bB]at p;have p:=bw (f:=λa:Arc=>a.two) p;obtain⟨bs,e,ka⟩:=wo p;subst e;refine bf ⟨_,true,⟨D,bs,rfl,SqL.of hy,ka,λk hk=>?_,λus nd h=>u6 ok nd h⟩,ul _,λq bs' us hq ka' nd mm so=>?_⟩
 ·obtain⟨t,_,rfl⟩:=Qm.mp hk;rfl
 obtain⟨ts,e,pt⟩:=w4 ka' λk hk=>by obtain⟨t,_,e⟩:=Qm.mp ((mm k).mp hk);exact⟨t,e.symm⟩
 subst e;have S4:=aC (o:=.lst (bs'.map V.ref)) hq;refine k q _ ts _ (S'.trans S4) (bN S' hq) ah (af (λ_ _ h=>h.kt (ak.tups S4)) pt) ⟨(QN.mp nd).imp λh e=>h (by rw[e]),λx=>?_,(QN.mp so).imp λh=>h⟩
 constructor
 ·intro hx;obtain⟨t,ht,e⟩:=Qm.mp ((mm _).mp (Qm.mpr ⟨x,hx,rfl⟩));obtain⟨a,ha,e2⟩:=Qm.mp ht;exact⟨a,ha,by rw[e2];exact gg e⟩
 rintro⟨a,ha,rfl⟩;obtain⟨t,ht,e⟩:=Qm.mp ((mm (tk2 a.two)).mpr (Qm.mpr ⟨_,Qm.mpr ⟨a,ha,rfl⟩,rfl⟩));rw[<-gg e];exact ht
theorem gF:FnScope ["arcs"] ["arcs"] (av (top 23)):=by fin2
theorem sM {f:Addr} (Fu:Fun K "first_marks" "first_marks" (top 23) f fd) (T:Txt K mg TT):FnOk P w K mg base CX0 2 f fd ["arcs"] oo:=by
 have S:=gF;refine Fu.ok S (by room) (λcdv A outer s H vs Q E hr h=>?_);obtain⟨l,as,r,rfl,at_,ok,k⟩:=h;have hu:=cY hr;refine⟨_,(aI (aD (bq eN (by rfl) T.n_tuple PyProof.Rows.boot_tuple (aa (c7 "arc" [] (aZ (pv 0)) (λ_ _ _ _=>(aj (bP (K:=K) rfl) (pv 0) ae))) ac)))),?_⟩;x_go;lk;refine bx (s_list (aY rfl ⟨l,rfl,⟨_,SqL.of at_.h⟩,λD hD=>?_⟩));refine cv (λ_=>true) (λH v (a:Arc)=>v=.int a.mark) hD at_.h at_.p (QK ok.few (by decide)) (λH H' v x k h=>h) (λv x H' ia mx S' G N hG _=>?_) (λH' ys S' hy p=>?_)
 ·obtain⟨b,v1,v2,rfl,hb,t1,t2⟩:=ia.kt (ak.tups S');refine aw ⟨trivial,i_yes (b9 ?_)⟩;lk;exact hG rfl _ H' (ak.refl _) rfl
 rw[bB]at p;refine bf ⟨D,ys,rfl,.inl ⟨SqL.of hy,λq hq=>?_⟩⟩;have e:ys=(mks r.arcs).map V.int:=by rw[cQ p];unfold mks;rw[Xm];rfl
 subst e;exact k q _ (S'.trans (aC hq)) ah
end
def cW (as:List Arc) (ms:List Int) (t:Tu):Bool:=(as.zip ms).all λp=>!decide (p.1.two=t) || decide (0<p.2)
def mkB (a:Arc) (m:Int) (t:Tu):Int:=if a.one=t then m+1 else if a.two=t then m-1 else m
def eX (as:List Arc) (ms:List Int) (t:Tu):List Int:=(as.zip ms).map λp=>mkB p.1 p.2 t
structure MkOk (as:List Arc) (ms:List Int):Prop where
 len:ms.length=as.length
 m:∀m∈ms,m=0\/m=1
def vL:Sp:=λvs H Q _=>∃(l ma ta:Addr) (as:List V) (r:Rg) (ms:List Int) (t:Tu),vs=[.ref l,.ref ma,.ref ta]/\ArsA H l as r.arcs/\RgOk r/\H ma=some (.tup (ms.map V.int))/\MkOk r.arcs ms/\TuA H (.ref ta) t/\∀H',ak H H'->Q (.bl (cW r.arcs ms t)) H'
def rK:Sp:=λvs H Q _=>∃(v:V) (m:Int) (ta:Addr) (a:Arc) (t:Tu),vs=[v,.int m,.ref ta]/\ArA H v a/\(m=0\/m=1)/\TuA H (.ref ta) t/\∀H',ak H H'->Q (.int (mkB a m t)) H'
def oj:Sp:=λvs H Q _=>∃(l ma ta:Addr) (as:List V) (r:Rg) (ms:List Int) (t:Tu),vs=[.ref l,.ref ma,.ref ta]/\ArsA H l as r.arcs/\RgOk r/\H ma=some (.tup (ms.map V.int))/\MkOk r.arcs ms/\TuA H (.ref ta) t/\∀p H',ak H H'->H' p=some (.tup ((eX r.arcs ms t).map V.int))->Q (.ref p) H'
theorem dY:∀(ms:List Int),Paired (λv m=>v=V.int m) (ms.map V.int) ms
 | []=>.nil
 | _::ms=>.cons rfl (dY ms)
section
theorem kW:FnScope ["arcs", "marks", "turn"] ["arcs", "marks", "turn"] (av (top 24)):=by fin2
variable {fd:FuncData}
theorem wU {f:Addr} (Fu:Fun K "may_come" "may_come" (top 24) f fd) (T:Txt K mg TT):FnOk P w K mg base CX0 2 f fd ["arcs", "marks", "turn"] vL:=by
 have S:=kW;refine Fu.ok S (by room) (λcdv A outer s H vs Q E hr h=>?_);obtain⟨l,ma,ta,as,r,ms,t,rfl,at_,ok,hm,mok,tu,k⟩:=h;have hu:=cY hr;refine⟨_,(aI (aD (am (dA rfl) (by rfl) T.n_all PyProof.Rows.boot_all (aa (gO (tgs:=["arc", "mark"]) (cap:=[("turn", 2)]) rfl ⟨rfl,rfl,rfl,rfl,rfl,rfl⟩ (oM (by rfl) T.n_zip (aa (pv 0) (aa (pv 1) ac ad) ad)) (λ_ _ _ _=>(fi (K:=K) (n:=2) rfl rfl (aH (bi (i:=0) (show List.Nodup [("arc" : Str),("mark" : Str),("turn" : Str)] by decide +kernel) rfl (by z_go)) (aH (bi (i:=1) (show List.Nodup [("arc" : Str),("mark" : Str),("turn" : Str)] by decide +kernel) rfl (by z_go)) bT)))) (λ_ _ _ _=>(fh (aG (oS (K:=K) rfl hr.units) (aj (bP (K:=K) rfl) (pv 0) ae) (pv 2) (aF _)))) (λ_ _ _ _=>(bj lA (pv 1) ae (aF _)))) ac)))),?_⟩;x_go;lk;refine bx (i_cons (aY rfl (i_cons (aY rfl (bf ⟨l,ma,false,true,rfl,⟨_,SqL.of at_.h⟩,⟨_,SqT.of hm⟩,λD hD=>?_⟩)))));refine tX (λp=>decide (p.1.two=t)) (λH v p=>v=.bl (decide (0<p.2))) hD at_.h hm at_.p (dY ms) mok.len.symm (QK ok.few (by decide)) (λH H' v x k h=>h) (λv x u m b H' ia im mx S' hb G N hG hN=>?_) (λH' ys S' hy p=>?_)
 ·obtain⟨c,v1,v2,rfl,hc,t1,t2⟩:=ia.kt (ak.tups S');cases im;refine⟨b,_,rfl,SqT.of hb,rfl,_,_,rfl,aw ⟨_,_,rfl,aw ⟨rfl,⟨rfl,trivial⟩,?_⟩⟩⟩;lk;refine eY t2 (tu.kt (ak.tups S')) ⟨_,rfl,?_⟩;dsimp only at hG hN ⊢;cases ct:decide (x.two=t)
  ·exact iteF (hN ct H' (ak.refl _))
  refine b9 ?_;lk;exact hG ct _ H' (ak.refl _) rfl
 refine bf ⟨D,(((r.arcs.zip ms).filter λp=>decide (p.1.two=t)).map λp=>decide (0<p.2)),rfl,?_,?_⟩
 ·rw[cQ p]at hy;rw[Xm];exact SqL.of hy
 have e:((((r.arcs.zip ms).filter λp=>decide (p.1.two=t)).map λp=>decide (0<p.2)).all id)=cW r.arcs ms t:=by
  unfold cW;rw[List.all_map,List.all_filter];rfl
 rw[e];exact k H' S'
theorem gC:FnScope ["arc", "mark", "turn"] ["arc", "mark", "turn"] (av (top 25)):=by fin2
theorem uK {f:Addr} (Fu:Fun K "mark_behind" "mark_behind" (top 25) f fd) (T:Txt K mg TT):FnOk P w K mg base CX0 2 f fd ["arc", "mark", "turn"] rK:=by
 have S:=gC;refine Fu.ok S (by room) (λcdv A outer s H vs Q E hr h=>?_);obtain⟨v,m,ta,a,t,rfl,ia,hm,tu,k⟩:=h;have hu:=cY hr;obtain⟨b,v1,v2,rfl,hb,t1,t2⟩:=ia
 refine⟨_,(aK (ps_if (aG (jH hr.units) (aj au (pv 0) ae) (pv 2) (aF _)) (aI (aD (aM cA (pv 1) ae))) pss_nil)
  (aI (aD (lq (aG (jH hr.units) (aj au (pv 0) ae) (pv 2) (aF _)) (aM gT (pv 1) ae) (pv 1))))),?_⟩
 x_go;have k:=k H (ak.refl H);unfold mkB at k;lk;refine eY t1 tu ⟨_,rfl,?_⟩;by_cases c1:a.one=t
 ·rw[Qs c1]at k;refine ifT (QA c1) ?_;lk;exact k
 rw[Qq c1]at k;refine ifF (Qy c1) ?_;lk;refine eY t2 tu ⟨_,rfl,?_⟩;by_cases c2:a.two=t
 ·rw[Qs c2]at k;refine ifT (QA c2) ?_;lk;exact k
 rw[Qq c2]at k;refine ifF (Qy c2) ?_;lk;exact k
theorem f9:FnScope ["arcs", "marks", "turn"] ["arcs", "marks", "turn"] (av (top 26)):=by fin2
theorem sJ {f:Addr} (Fu:Fun K "marks_behind" "marks_behind" (top 26) f fd) (T:Txt K mg TT) (f_mark_behind:Fn P w K mg base "mark_behind" ["arc", "mark", "turn"] 2 rK):FnOk P w K mg base CX0 3 f fd ["arcs", "marks", "turn"] oj:=by
 have S:=f9;refine Fu.ok S (by room) (λcdv A outer s H vs Q E hr h=>?_);obtain⟨l,ma,ta,as,r,ms,t,rfl,at_,ok,hm,mok,tu,k⟩:=h;have hu:=cY hr;refine⟨_,(aI (aD (bq eN (by rfl) T.n_tuple PyProof.Rows.boot_tuple (aa (gO (tgs:=["arc", "mark"]) (cap:=[("turn", 2)]) rfl ⟨rfl,rfl,rfl,rfl,rfl,rfl⟩ (oM (by rfl) T.n_zip (aa (pv 0) (aa (pv 1) ac ad) ad)) (λ_ _ _ _=>(fi (K:=K) (n:=2) rfl rfl (aH (bi (i:=0) (show List.Nodup [("arc" : Str),("mark" : Str),("turn" : Str)] by decide +kernel) rfl (by z_go)) (aH (bi (i:=1) (show List.Nodup [("arc" : Str),("mark" : Str),("turn" : Str)] by decide +kernel) rfl (by z_go)) bT)))) (λ_ _ _ _=>cI) (λ_ _ _ _=>(aJ f_mark_behind hr (aa (pv 0) (aa (pv 1) (aa (pv 2) ac ad) ad) ad)))) ac)))),?_⟩;x_go;lk;refine bx (i_cons (aY rfl (i_cons (aY rfl (bf ⟨l,ma,false,true,rfl,⟨_,SqL.of at_.h⟩,⟨_,SqT.of hm⟩,λD hD=>?_⟩)))));refine tX (λ_=>true) (λH v p=>v=.int (mkB p.1 p.2 t)) hD at_.h hm at_.p (dY ms) mok.len.symm (QK ok.few (by decide)) (λH H' v x k h=>h) (λv x u m b H' ia im mx S' hb G N hG hN=>?_) (λH' ys S' hy p=>?_)
 ·have ia:=ia.kt (ak.tups S');cases im;refine⟨b,_,rfl,SqT.of hb,rfl,_,_,rfl,aw ⟨_,_,rfl,aw ⟨rfl,⟨rfl,trivial⟩,i_yes (b9 ?_)⟩⟩⟩;lk;exact⟨v,m,ta,x,t,rfl,ia,mok.m m (List.of_mem_zip mx).2,tu.kt (ak.tups S'),λH2 S2=>hG rfl _ H2 S2 rfl⟩
 rw[bB]at p;refine bf ⟨D,ys,rfl,.inl ⟨SqL.of hy,λq hq=>?_⟩⟩;have e:ys=(eX r.arcs ms t).map V.int:=by rw[cQ p];unfold eX;rw[Xm];rfl
 subst e;exact k q _ (S'.trans (aC hq)) ah
end
abbrev Pl:=List Int × Str
structure PlOk (r:Rg) (p:Pl):Prop where
 m:MkOk r.arcs p.1
 z:StOk r.ws.length p.2
def PlA (H:Hp) (v:V) (p:Pl):Prop:=∃b mb,v=.ref b/\H b=some (.tup [.ref mb,.str p.2])/\H mb=some (.tup (p.1.map V.int))
theorem PlA.kt {p:Pl} (k:aX H H') (h:PlA H v p):PlA H' v p:=let ⟨b,mb,e,h1,h2⟩:=h;⟨b,mb,e,k _ _ h1,k _ _ h2⟩
abbrev Sp1:=Tu × Pl
def StA (H:Hp) (v:V) (s:Sp1):Prop:=∃b v1 v2,v=.ref b/\H b=some (.tup [v1,v2])/\TuA H v1 s.1/\PlA H v2 s.2
theorem StA.kt {s:Sp1} (k:aX H H') (h:StA H v s):StA H' v s:=let ⟨b,v1,v2,e,h0,h1,h2⟩:=h;⟨b,v1,v2,e,k _ _ h0,h1.kt k,h2.kt k⟩
def bJ (r:Rg) (p:Pl) (t:Tu):Sp1:=(t,(eX r.arcs p.1 t,bc p.2 (r.ws.idxOf t.1)))
def bh (r:Rg) (ts:List Tu) (p:Pl):List Sp1:=(ts.filter (cW r.arcs p.1)).map (bJ r p)
abbrev Wt (r:Rg) (ts:List Tu):Prop:=WtOk (λt=>∃a∈r.arcs,a.two=t) ts
theorem Wt.few (ok:RgOk r) (w:Wt r ts):ts.length<=10:=by
 have:=Bf.pigeon ts ((r.ws.map λn=>((n, "+"):Tu))++(r.ws.map λn=>((n, "-"):Tu))) w.nd λx hx=>by
  obtain⟨a,ha,rfl⟩:=(w.mem x).mp hx;obtain⟨h1,h2⟩:=(ok.arcs a ha).t;refine Qw.mpr ?_;rcases h2 with e|e
  ·exact .inl (Qm.mpr ⟨_,h1,Prod.ext rfl e.symm⟩)
  exact .inr (Qm.mpr ⟨_,h1,Prod.ext rfl e.symm⟩)
 rw[Qh,Qc,Qc]at this;have:=ok.w5;omega
theorem Wt.ok {r:Rg} {ts:List Tu} (ok:RgOk r) (w:Wt r ts) {t:Tu} (h:t∈ts):bt r.ws t:=by
 obtain⟨a,ha,rfl⟩:=(w.mem t).mp h;exact(ok.arcs a ha).t
def n_:Sp:=λvs H Q _=>∃(a li lo l:Addr) (as:List V) (r:Rg) (v:V) (p:Pl),vs=[.ref a,v]/\RgA H a li lo l as r/\RgOk r/\PlA H v p/\PlOk r p/\∀q sv ts H',ak H H'->H q=none->H' q=some (.lst sv)->Wt r ts->Paired (StA H') sv (bh r ts p)->Q (.ref q) H'
theorem jV {m:Int}:∀{ns:List Int},inV (.int m) (ns.map V.int)=true↔m∈ns
 | []=>by simp[inV]
 | x::ns=>by
  have ih:=jV (m:=m) (ns:=ns);unfold inV at ih ⊢;rw[Qt,List.any_cons,Bool.or_eq_true,Qk,ih]
  have:eqV (.int x) (.int m)=true↔m=x:=by
   show (x==m)=true↔m=x;rw[beq_iff_eq];exact eq_comm
  rw[this]
theorem qR (ns:List Int):(ns.map V.int).all bZ=true:=by
 rw[List.all_map];exact Xb.mpr λ_ _=>rfl
def sgB (row:Str) (i:Nat):Bool:=row.cps.getD i 0==49
def cV (r:Rg) (row:Str) (s:Sp1):Option Str:=if sgB row (r.ws.idxOf s.1.1)=decide (s.1.2 = "+") then some "signs" else if 2∈s.2.1 then some "twice" else none
def wV:Option Str->V
 | none=>.non
 | some z=>.str z
def vK:Sp:=λvs H Q _=>∃(a li lo l:Addr) (as:List V) (r:Rg) (v u:V) (p:Pl) (s:Sp1),vs=[.ref a,v,u]/\RgA H a li lo l as r/\RgOk r/\PlA H v p/\PlOk r p/\StA H u s/\bt r.ws s.1/\∀H',ak H H'->Q (wV (cV r p.2 s)) H'
section
theorem kT:FnScope ["ring_sheet", "place", "arcs", "steps", "turn"] ["ring_sheet", "place"] (av (top 27)):=by fin2
theorem sG {f:Addr} {fd:FuncData} (Fu:Fun K "steps_at" "steps_at" (top 27) f fd) (T:Txt K mg TT) (f_waiting_turns:Fn P w K mg base "waiting_turns" ["arcs"] 2 mL) (f_may_come:Fn P w K mg base "may_come" ["arcs", "marks", "turn"] 2 vL) (f_marks_behind:Fn P w K mg base "marks_behind" ["arcs", "marks", "turn"] 3 oj) (f_row_behind:Fn P w K mg base "row_behind" ["sheet", "row", "name"] 2 kP):FnOk P w K mg base CX0 4 f fd ["ring_sheet", "place"] n_:=by
 have S:=kT;refine Fu.ok S (by room) (λcdv A outer s H vs Q E hr h=>?_);obtain⟨a,li,lo,l,as,r,v,p,rfl,at_,ok,pa,po,k⟩:=h;have hu:=cY hr;obtain⟨b,mb,rfl,hb,hmb⟩:=id pa
 refine⟨_,(aK (aL 2 S.nd (aj au (pv 0) ae))
  (aK (aL 3 S.nd (pe_lst ac))
  (aK (ps_for PassesOwn.never rfl (aZ (aJ f_waiting_turns hr (aa (pv 2) ac ad))) (bz 4 S.nd)
  (aI (ps_if (ca (aJ f_may_come hr (aa (pv 2) (aa (aj au (pv 1) ae) (aa (pv 4) ac ad)) ad))) (aI (cj (bR QE Q3 Q4 br (pv 3) (aa (be (aa (pv 4) (aa (be (aa (aJ f_marks_behind hr (aa (pv 2) (aa (aj au (pv 1) ae) (aa (pv 4) ac ad)) ad)) (aa (aJ f_row_behind hr (aa (pv 0) (aa (aj au (pv 1) ae) (aa (aj au (pv 4) ae) ac)) ad)) ac aP) aP)) ac se_tup) ad)) ac se_tup)))) pss_nil)))
  (aI (aD (pv 3)))))),?_⟩
 x_go;have ha:=at_.ha;lk;refine⟨by simp,λL hL=>aw ?_⟩;generalize hE:upd H L (.lst [])=H0;obtain⟨S0,q0⟩:=ag hL hE;refine s_seq (s_for (s_list (i_call (i_cons (aY rfl (bf ⟨l,as,r,rfl,at_.arcs.same S0,ok,λq tv ts H1 S1 nq hq pt wt=>⟨q,rfl,⟨_,SqL.of hq⟩,?_⟩⟩))))));have nLq:L≠q:=λz=>by rw[<-z,q0]at nq;cases nq
 let I1:IvF:=λi U H'=>(∃x,U=[some (.ref a),some (.ref b),some (.ref l),some (.ref L),x])/\ak H H'/\aX H1 H'/\H' q=some (.lst tv)/\∃sv,H' L=some (.lst sv)/\Paired (StA H') sv (bh r (ts.take i) p);refine dy (xs:=tv) I1 ⟨⟨none,rfl⟩,S0.trans S1,λ_ _ e=>e,hq,[],S1 _ _ q0,.nil⟩ (λi U H' _ h=>SqL.of h.2.2.2.1) (λi x U H' ex h=>?_) (λU H' h=>?_)
 ·obtain⟨⟨x0,rfl⟩,Sm,kt,hq',sv,hL',ps⟩:=h;obtain⟨t,et,tu⟩:=paired_get pt ex;have tu:=tu.kt kt;obtain⟨ta,rfl,hta⟩:=id tu;have at':=at_.same Sm;have pa':=pa.kt (ak.tups Sm);have hb':=Sm _ _ hb;have hmb':=Sm _ _ hmb;have mt:t∈ts:=Ql et;have few:=Wt.few ok wt;have sl:=ar ps
  have sf:sv.length<=10:=by
   rw[sl];unfold bh;rw[Qc];refine QK (List.length_filter_le _ _) ?_;rw[QM];omega
  have big:1000<sizeLine:=by decide
  lk;refine⟨l,mb,ta,as,r,p.1,t,rfl,at'.arcs,ok,hmb',po.m,tu,λH2 S2=>⟨_,rfl,?_⟩⟩
  have et':(ts.take i).filter (cW r.arcs p.1)++(if cW r.arcs p.1 t=true then [t] else [])=(ts.take (i+1)).filter (cW r.arcs p.1):=by
   rw[List.take_succ,et,List.filter_append];congr 1;cases c:cW r.arcs p.1 t <;> simp[c]
  cases c:cW r.arcs p.1 t
  ·refine iteF (s_next ⟨⟨_,rfl⟩,Sm.trans S2,λb xs e=>S2 _ _ (kt b xs e),S2 _ _ hq',sv,S2 _ _ hL',?_⟩);rw[c,Qq Qp,List.append_nil]at et';unfold bh;rw[<-et'];exact af (λ_ _ h=>h.kt (ak.tups S2)) ps
  refine b9 ?_;rw[c,Qs rfl]at et';have hL2:=S2 _ _ hL';have hb2:=S2 _ _ hb';lk;refine⟨l,mb,ta,as,r,p.1,t,rfl,at'.arcs.same S2,ok,S2 _ _ hmb',po.m,tu.kt (ak.tups S2),λm2 H3 S3 hm2=>?_⟩;have hb3:=S3 _ _ hb2;have S23:=S2.trans S3;have hta3:=S23 _ _ hta;lk;refine⟨a,li,lo,l,as,r,p.2,t.1,rfl,at'.same S23,ok,po.z,(Wt.ok ok wt mt).1,λH4 S4=>?_⟩;lk;refine⟨by simp[sizeLine],λp5 h5=>?_⟩;generalize hE5:upd H4 p5 _=H5;obtain⟨S5,q5⟩:=ag h5 hE5;lk;refine⟨by simp[sizeLine],λp6 h6=>?_⟩;generalize hE6:upd H5 p6 _=H6;obtain⟨S6,q6⟩:=ag h6 hE6;have S46:=(S23.trans S4).trans (S5.trans S6);have hL6:=S46 _ _ hL';refine bf (d0 hL6 (by omega) (s_next ?_));have ktu:=bO (o:=.lst (sv++[.ref p6])) hL6;refine⟨⟨_,rfl⟩,bK (Sm.trans S46) hL,λb xs e=>ktu _ _ (S46 _ _ (kt b xs e)),by rw[aq nLq.symm];exact S46 _ _ hq',_,ah,?_⟩;unfold bh;rw[<-et',QI];refine aV (af (λ_ _ h=>(h.kt (ak.tups S46)).kt ktu) ps) ?_;exact⟨p6,_,_,rfl,ktu _ _ q6,(tu.kt (ak.tups S46)).kt ktu,p5,m2,rfl,ktu _ _ (S6 _ _ q5),ktu _ _ (S6 _ _ (S5 _ _ (S4 _ _ hm2)))⟩
 obtain⟨⟨x0,rfl⟩,Sm,kt,hq',sv,hL',ps⟩:=h;rw[Xc (Nat.le_of_eq (ar pt).symm)]at ps;exact s_ret (aY rfl (k L sv ts H' Sm hL hL' wt ps))
theorem kU:FnScope ["ring_sheet", "place", "step", "turn", "sign"] ["ring_sheet", "place", "step"] (av (top 28)):=by fin2
theorem wT {f:Addr} {fd:FuncData} (Fu:Fun K "odd_word" "odd_word" (top 28) f fd) (T:Txt K mg TT):FnOk P w K mg base CX0 2 f fd ["ring_sheet", "place", "step"] vK:=by
 have S:=kU;refine Fu.ok S (by room) (λcdv A outer s H vs Q E hr h=>?_);obtain⟨a,li,lo,l,as,r,v,u,p,sp,rfl,at_,ok,pa,po,sa,tok,k⟩:=h;have hu:=cY hr;obtain⟨SA,tS1,tS2⟩:=T.sA;obtain⟨b,mb,rfl,hb,hmb⟩:=id pa;obtain⟨c,v1,v2,rfl,hc,t1,p2⟩:=id sa;obtain⟨d,rfl,hd⟩:=id t1;obtain⟨e,me,rfl,he,hme⟩:=id p2
 refine⟨_,(aK (aL 3 S.nd (aj au (pv 2) ae))
  (aK (aL 4 S.nd (aj cX (aj au (pv 1) ae) (bR QE Xv Xw gY (aM dh (aj au (pv 0) ae) (aj au (pv 0) ae)) (aa (aj au (pv 3) ae) ac))))
  (aK (ps_if (aG iX (pv 4) (aj (xi tS2) (c8 (v:=.ref SA) (by rfl) tS1 rfl) (aj au (pv 3) ae)) (aF _)) (aI (aD ba)) pss_nil)
  (aI (aD (lq (aG fJ ae (aj au (aj au (pv 2) ae) ae) rfl) ba se)))))),?_⟩
 x_go;have ha:=at_.ha;lk;have w5:=ok.w5;have big:1000<sizeLine:=by decide
 have lw:(r.ins.map V.str).length+(r.outs.map V.str).length=r.ws.length:=by rw[Qc,Qc];unfold Rg.ws;rw[Qh]
 refine eM at_.hi at_.ho (by rw[lw];omega) λp1 hp1=>?_;rw[<-QI];generalize hE:upd H p1 _=H1;obtain⟨S1,q1⟩:=ag hp1 hE;have k:=k H1 S1;have hc:=S1 _ _ hc;have hd:=S1 _ _ hd;have he:=S1 _ _ he;have hme:=S1 _ _ hme;refine⟨i_tyL q1,?_⟩;lk;refine⟨p1,r.ws,sp.1.1,r.ws.idxOf sp.1.1,rfl,rfl,q1,ic tok.1,fP,by omega,?_⟩;have il:=QO tok.1;have hz:=po.z.len;refine eL (by show p.2.cps.size<=_;omega) (j_ po.z il) ?_;have es:=oA po.z il;unfold fX at es;rw[es];lk
 have key:∀(G:VK),(G (.bl (decide (sgB p.2 (r.ws.idxOf sp.1.1)=decide (sp.1.2 = "+")))) H1)->rS SA (.ref SA) (.str sp.1.2) H1 λy H2=>rNe (sg (p.2.cps.getD (r.ws.idxOf sp.1.1) 0==49)) y H2 G:=λG g=>by
  unfold sgB at g;rcases tok.2 with e|e
  ·rw[e]at g ⊢;refine⟨rfl,.inl ⟨rfl,?_⟩⟩;cases c:(p.2.cps.getD (r.ws.idxOf sp.1.1) 0==49)
   ·rw[c]at g;exact i_ne rfl g
   rw[c]at g;exact i_ne rfl g
  rw[e]at g ⊢;refine⟨rfl,.inr ⟨rfl,?_⟩⟩;cases c:(p.2.cps.getD (r.ws.idxOf sp.1.1) 0==49)
  ·rw[c]at g;exact i_ne rfl g
  rw[c]at g;exact i_ne rfl g
 refine key _ ⟨_,rfl,?_⟩;unfold cV at k;by_cases c1:sgB p.2 (r.ws.idxOf sp.1.1)=decide (sp.1.2 = "+")
 ·rw[Qs c1]at k;refine ifT (QA c1) ?_;lk;exact k
 rw[Qq c1]at k;refine ifF (Qy c1) ?_;lk;refine⟨me,_,rfl,.inr (SqT.of hme),rfl,qR _,_,rfl,?_⟩;by_cases c2:2∈sp.2.1
 ·rw[Qs c2]at k;refine ifT (jV.mpr c2) ?_;lk;exact k
 rw[Qq c2]at k;refine ifF (Bool.eq_false_iff.mpr λz=>c2 (jV.mp z)) ?_;lk;exact k
end
abbrev Nd:=List (Str × Nat)
inductive Res where
 | odd (way:List Tu) (word:Str)
 | many
 | sheet (nodes:List Nd)
structure Sx where
 ps:List Pl
 ws:List (List Tu)
noncomputable def bv (r:Rg) (row:Str) (way:List Tu):List Sp1->Sx->Nd->Res ⊕ (Sx × Nd)
 | [],x,nd=>.inr (x,nd)
 | s::ss,x,nd=>match cV r row s with
  | some w=>.inl (.odd (way++[s.1]) w)
  | none=>if s.2∈x.ps then bv r row way ss x (nd++[(s.1.1,x.ps.idxOf s.2)])
   else if x.ps.length=40 then .inl .many
   else bv r row way ss ⟨x.ps++[s.2],x.ws++[way++[s.1]]⟩ (nd++[(s.1.1,x.ps.length)])
def Sx.p (x:Sx) (i:Nat):Pl:=x.ps.getD i ([],Str.empty)
def Sx.wy (x:Sx) (i:Nat):List Tu:=x.ws.getD i []
noncomputable def outer (r:Rg) (ts:List Tu):Nat->Sx->List Nd->Res
 | 0,_,_=>.many
 | f+1,x,nds=>if nds.length<x.ps.length then
   match bv r (x.p nds.length).2 (x.wy nds.length) (bh r ts (x.p nds.length)) x [] with
   | .inl res=>res
   | .inr (x',nd)=>outer r ts f x' (nds++[nd])
  else .sheet nds
def Sx.first (r:Rg):Sx:=⟨[(mks r.arcs,r.z)],[[]]⟩
def unf (r:Rg) (ts:List Tu):Res:=outer r ts 41 (Sx.first r) []
theorem qz {x y z:Tu} (h1:leT x y) (h2:leT y z):leT x z:=by
 have h1:Tm.lb (Tm.flat (tk2 y)) (Tm.flat (tk2 x))=false:=h1;have h2:Tm.lb (Tm.flat (tk2 z)) (Tm.flat (tk2 y))=false:=h2;show Tm.lb (Tm.flat (tk2 z)) (Tm.flat (tk2 x))=false
 cases c:Tm.lb (Tm.flat (tk2 z)) (Tm.flat (tk2 x)) with
 | false=>rfl
 | true =>
 rcases Tm.jN (Tm.flat (tk2 z)) (Tm.flat (tk2 y)) with h|h|h
 ·rw[h2]at h;cases h
 ·rw[h,h1]at c;cases c
 rw[Tm.dZ h c]at h1;cases h1
theorem yI (xs:List Tu):∃us:List Tu,us.Nodup/\∀x,x∈us↔x∈xs:=by
 induction xs with
 | nil=>exact⟨[],.nil,λx=>Iff.rfl⟩
 | cons x xs ih =>
 obtain⟨us,nd,mm⟩:=ih;by_cases h:x∈us
 ·exact⟨us,nd,λy=>by rw[mm,Qk];exact⟨.inr,λz=>z.elim (λz=>z▸(mm x).mp h) id⟩⟩
 exact⟨x::us,QS.mpr ⟨h,nd⟩,λy=>by rw[Qk,Qk,mm]⟩
theorem xG (r:Rg):∃ts,Wt r ts:=by
 obtain⟨us,nd,mm⟩:=yI (r.arcs.map (·.two));have pm:=List.mergeSort_perm us (λx y=>!Tm.lb (Tm.flat (tk2 y)) (Tm.flat (tk2 x)));refine⟨us.mergeSort (λx y=>!Tm.lb (Tm.flat (tk2 y)) (Tm.flat (tk2 x))),pm.nodup_iff.mpr nd,λx=>?_,?_⟩
 ·rw[pm.mem_iff,mm,Qm]
 refine(List.pairwise_mergeSort (λa b c h1 h2=>?_) (λa b=>?_) us).imp λ{a b} h=>?_
 ·rw[Bool.not_eq_true']at h1 h2 ⊢;exact qz (x:=a) (y:=b) (z:=c) h1 h2
 ·rw[Bool.or_eq_true,Bool.not_eq_true',Bool.not_eq_true'];exact Tm.qC _ _
 rw[Bool.not_eq_true']at h;exact h
theorem g_ {ms:List Int} {t:Tu} (h:ms.length=as.length):(eX as ms t).length=as.length:=by
 unfold eX;rw[Qc,List.length_zip];omega
theorem kL {p:Pl} {t:Tu} (po:PlOk r p) (tok:bt r.ws t) (may:cW r.arcs p.1 t=true) (no2:2∉(bJ r p t).2.1):PlOk r (bJ r p t).2:=by
 refine⟨⟨g_ po.m.len,λm hm=>?_⟩,cN po.z (QO tok.1)⟩;have h2:m≠2:=λz=>no2 (z▸hm);have hm:m∈eX r.arcs p.1 t:=hm;unfold eX at hm;obtain⟨⟨a,n⟩,hz,rfl⟩:=Qm.mp hm;have hn:=po.m.m n (List.of_mem_zip hz).2;have hp:=Xb.mp may _ hz;dsimp only at hp h2 ⊢;unfold mkB at h2 ⊢;by_cases c1:a.one=t
 ·rw[Qs c1]at h2 ⊢;omega
 rw[Qq c1]at h2 ⊢;by_cases c2:a.two=t
 ·rw[Qs c2]at h2 ⊢;rw[QA c2,X5,Bool.false_or,decide_eq_true_eq]at hp;omega
 rw[Qq c2];exact hn
def Sx.Ok (r:Rg) (x:Sx):Prop:=x.ws.length=x.ps.length/\1<=x.ps.length/\x.ps.length<=40/\(∀p∈x.ps,PlOk r p)/\∀w∈x.ws,w.length<x.ws.length
theorem Sx.p_mem {x:Sx} (h:i<x.ps.length):x.ps[i]?=some (x.p i):=by
 unfold Sx.p;rw[Qr,Qd h];rfl
theorem Sx.w_mem {x:Sx} {i:Nat} (h:i<x.ws.length):x.ws[i]?=some (x.wy i):=by
 unfold Sx.wy;rw[Qr,Qd h];rfl
theorem sT (ok:RgOk r):PlOk r (mks r.arcs,r.z):=by
 refine⟨⟨Qc ..,λm hm=>?_⟩,ok.st⟩;obtain⟨a,ha,rfl⟩:=Qm.mp hm;exact(ok.arcs a ha).m
theorem tM (ok:RgOk r):(Sx.first r).Ok r:=⟨rfl,Qj _,(by decide:1<=40),λp hp=>by cases QB.mp hp;exact sT ok,λw hw=>by cases QB.mp hw;exact Nat.zero_lt_one⟩
def tkP (p:Pl):ax:=[.inr (p.1.map Sum.inl),.inl (.inr p.2)]
theorem ph:∀{xs ys:List Int},xs.map (Sum.inl:Int->Key)=ys.map Sum.inl->xs=ys
 | [],[],_=>rfl
 | [],_::_,h=>by simp at h
 | _::_,[],h=>by simp at h
 | x::xs,y::ys,h=>by
  rw[Qt,Qt]at h;injection h with h1 h2;rw[Sum.inl.inj h1,ph h2]
theorem nR {x y:Pl} (h:tkP x=tkP y):x=y:=by
 unfold tkP at h;simp only[List.cons.injEq,Sum.inl.injEq,Sum.inr.injEq]at h;exact Prod.ext (ph h.1) h.2.1
theorem PlA.tk {p:Pl} (h:PlA H (.ref b) p):bH H (tkP p) b:=by
 obtain⟨_,mb,e,q,q2⟩:=h;cases e;refine⟨_,q,.cons ⟨mb,rfl,?_⟩ (.cons rfl .nil)⟩;rw[q2,Xm];rfl
def pN (H:Hp) (a:Addr) (ps:List Pl):Prop:=∃kvs,H a=some (.dT kvs)/\kvs.length<=ps.length/\∀p,bC kvs (tkP p)=if p∈ps then some (.int (ps.idxOf p:Nat)) else none
theorem uQ (p:Pl) (h:H a=some (.dT [(tkP p,.int 0)])):pN H a [p]:=by
 refine⟨_,h,Qj _,λq=>?_⟩;by_cases c:q=p
 ·subst c;rw[bE rfl,Qs (by simp)];simp
 rw[bF (λz=>c (nR z).symm),Qq (by simpa using c)];rfl
variable {kvs:List (ax × V)}
theorem uP {ps:List Pl} {p:Pl} (hp:p∉ps) (hv:∀p,bC kvs (tkP p)=if p∈ps then some (.int (ps.idxOf p:Nat)) else none) (q:Pl):bC (bI kvs (tkP p) (.int (ps.length:Nat))) (tkP q)=if q∈ps++[p] then some (.int ((ps++[p]).idxOf q:Nat)) else none:=by
 rw[fb,hv,List.idxOf_append];by_cases c:q=p
 ·subst c;rw[Qs rfl,Qs (by simp),Qq hp];simp
 rw[Qq (λz=>c (nR z))];by_cases d:q∈ps
 ·rw[Qs d,Qs (by simp[d]),Qs d]
 rw[Qq d,Qq (by simp[c,d])]
def SgA (H:Hp) (v:V) (p:Str × Nat):Prop:=∃b,v=.ref b/\H b=some (.tup [.str p.1,.int (p.2:Int)])
def dN (H:Hp) (l:Addr) (nd:Nd):Prop:=∃vs,H l=some (.lst vs)/\Paired (SgA H) vs nd
def iK (H:Hp) (l:Addr) (w:List Tu):Prop:=∃vs,H l=some (.lst vs)/\Paired (TuA H) vs w
theorem SgA.kt {p:Str × Nat} (k:aX H H') (h:SgA H v p):SgA H' v p:=let ⟨b,e,q⟩:=h;⟨b,e,k _ _ q⟩
theorem dN.keep {nd:Nd} (k:aX H H') (kl:∀vs,H l=some (.lst vs)->H' l=some (.lst vs)) (h:dN H l nd):dN H' l nd:=let ⟨vs,e,q⟩:=h;⟨vs,kl _ e,af (λ_ _ h=>h.kt k) q⟩
theorem iK.keep {w:List Tu} (k:aX H H') (kl:∀vs,H l=some (.lst vs)->H' l=some (.lst vs)) (h:iK H l w):iK H' l w:=let ⟨vs,e,q⟩:=h;⟨vs,kl _ e,af (λ_ _ h=>h.kt k) q⟩
noncomputable def kr (H0 H:Hp) (v:V) (r:Rg):Res->Prop
 | .odd way w=>∃a l,v=.ref a/\H a=some (.tup [.str "odd", .ref l,.str w])/\H0 l=none/\iK H l way
 | .many=>∃a,v=.ref a/\H a=some (.tup [.str "many"])
 | .sheet nds=>∃(a s li lo ln:Addr) (nas:A3),v=.ref a/\H a=some (.tup [.str "sheet", .ref s])/\H s=some (.tup [.ref li,.ref lo,.str r.z,.ref ln])/\H li=some (.lst (r.ins.map V.str))/\H lo=some (.lst (r.outs.map V.str))/\H ln=some (.lst (nas.map V.ref))/\Paired (dN H) nas nds/\(li::lo::ln::nas).Nodup/\∀b∈li::lo::ln::nas,H0 b=none
def vH:Sp:=λvs H Q _=>∃(a li lo l:Addr) (as:List V) (r:Rg),vs=[.ref a]/\RgA H a li lo l as r/\RgOk r/\∀v ts H',ak H H'->Wt r ts->kr H H' v r (unf r ts)->Q v H'
theorem vW {Os:A3} (no:∀b∈Os,∀ys,H b≠some (.tup ys)) (kb:∀b o,H b=some o->b∉Os->H' b=some o):aX H H':=λb ys e=>kb b _ e λz=>no b z ys e
theorem bD {α β:Type} {F G:α->β->Prop}:∀{xs:List α} {ys:List β},Paired F xs ys->(∀a b,a∈xs->F a b->G a b)->Paired G xs ys
 | _,_,.nil,_=>.nil
 | _,_,.cons r t,h=>.cons (h _ _ (by simp) r) (bD t λa b ha=>h a b (Qu _ ha))
structure UI (H0 H:Hp) (Lp Ln Lw Lo:Addr) (x:Sx) (pv:List V) (was nas:A3) (nds:List Nd):Prop where
 s:ak H0 H
 p:H Lp=some (.lst pv)
 pp:Paired (PlA H) pv x.ps
 n:pN H Ln x.ps
 w:H Lw=some (.lst (was.map V.ref))
 wp:Paired (iK H) was x.ws
 o:H Lo=some (.lst (nas.map V.ref))
 op:Paired (dN H) nas nds
 ap:∀b∈was++nas,b∉[Lp,Ln,Lw,Lo]
 nd:nas.Nodup
 nw:∀b∈nas,H0 b=none
 dl:[Lp,Ln,Lw,Lo].Nodup
 new:∀b∈[Lp,Ln,Lw,Lo],H0 b=none
section
variable {H0 H H':Hp} {Lp Ln Lw Lo:Addr} {x:Sx} {pv:List V} {was nas:A3} {nds:List Nd}
theorem UI.keep {N:Addr} (u:UI H0 H Lp Ln Lw Lo x pv was nas nds) (s:ak H0 H') (kt:aX H H') (kb:∀b o,H b=some o->b≠N->H' b=some o) (n:N∉Lp::Ln::Lw::Lo::(was++nas)):UI H0 H' Lp Ln Lw Lo x pv was nas nds:=by
 have ne:∀b∈Lp::Ln::Lw::Lo::(was++nas),b≠N:=λb hb z=>n (z▸hb);have inn:∀b∈was++nas,b≠N:=λb hb=>ne b (by simp only[Qk];exact .inr (.inr (.inr (.inr hb))));refine⟨s,kb _ _ u.p (ne _ (by simp)),af (λ_ _ h=>h.kt kt) u.pp,?_,kb _ _ u.w (ne _ (by simp)),?_,kb _ _ u.o (ne _ (by simp)),?_,u.ap,u.nd,u.nw,u.dl,u.new⟩
 ·obtain⟨kvs,h,r⟩:=u.n;exact⟨kvs,kb _ _ h (ne _ (by simp)),r⟩
 ·exact bD u.wp λb w hb h=>h.keep kt λvs e=>kb _ _ e (inn b (Q1 _ hb))
 exact bD u.op λb w hb h=>h.keep kt λvs e=>kb _ _ e (inn b (QC _ hb))
theorem UI.same (u:UI H0 H Lp Ln Lw Lo x pv was nas nds) (S:ak H H'):UI H0 H' Lp Ln Lw Lo x pv was nas nds:=by
 refine⟨u.s.trans S,S _ _ u.p,af (λ_ _ h=>h.kt (ak.tups S)) u.pp,?_,S _ _ u.w,?_,S _ _ u.o,?_,u.ap,u.nd,u.nw,u.dl,u.new⟩
 ·obtain⟨kvs,h,r⟩:=u.n;exact⟨kvs,S _ _ h,r⟩
 ·exact af (λb w h=>h.keep (ak.tups S) λvs e=>S _ _ e) u.wp
 exact af (λb w h=>h.keep (ak.tups S) λvs e=>S _ _ e) u.op
theorem UI.more {p:Pl} {w:List Tu} {v:V} {wl:Addr} (u:UI H0 H Lp Ln Lw Lo x pv was nas nds) (kb:∀b o,H b=some o->b∉[Lp,Ln,Lw]->H' b=some o) (hp:H' Lp=some (.lst (pv++[v]))) (pa:PlA H' v p) (hn:pN H' Ln (x.ps++[p])) (hw:H' Lw=some (.lst ((was++[wl]).map V.ref))) (wy:iK H' wl w) (nw:H wl=none) :
  aX H H'/\UI H0 H' Lp Ln Lw Lo ⟨x.ps++[p],x.ws++[w]⟩ (pv++[v]) (was++[wl]) nas nds:=by
 obtain⟨kvs,en,_⟩:=id u.n;have dl:=u.dl;simp only[QS,Qk,Qx,Xg,not_or]at dl
 have kt:aX H H':=vW (Os:=[Lp,Ln,Lw]) (λb hb ys e=>by
  simp only[Qk,Qx,Xg]at hb;rcases hb with rfl|rfl|rfl
  ·rw[u.p]at e;cases e
  ·rw[en]at e;cases e
  rw[u.w]at e;cases e) kb
 have kb':∀b o,H b=some o->b∉[Lp,Ln,Lw,Lo]->H' b=some o:=λb o e n=>kb b o e λz=>n (by simp only[Qk,Qx,Xg]at z ⊢;rcases z with z|z|z <;> simp[z]);refine⟨kt,λb o e=>kb b o (u.s _ _ e) λz=>?_,hp,aV (af (λ_ _ h=>h.kt kt) u.pp) pa,hn,hw,aV (bD u.wp λb w hb h=>h.keep kt λvs e=>kb' _ _ e (u.ap b (Q1 _ hb))) wy,kb _ _ u.o (by simp only[Qk,Qx,Xg,not_or];exact⟨λz=>dl.1.2.2 z.symm,λz=>dl.2.1.2 z.symm,λz=>dl.2.2.1 z.symm⟩),bD u.op λb w hb h=>h.keep kt λvs e=>kb' _ _ e (u.ap b (QC _ hb)),λb hb=>?_,u.nd,u.nw,u.dl,u.new⟩
 ·rw[u.new b (by simp only[Qk,Qx,Xg]at z ⊢;rcases z with z|z|z <;> simp[z])]at e;cases e
 rw[List.append_assoc,Qw,Qw,QB]at hb;rcases hb with hb|rfl|hb
 ·exact u.ap b (Q1 _ hb)
 ·intro z;simp only[Qk,Qx,Xg]at z;rcases z with rfl|rfl|rfl|rfl
  ·rw[u.p]at nw;cases nw
  ·rw[en]at nw;cases nw
  ·rw[u.w]at nw;cases nw
  rw[u.o]at nw;cases nw
 exact u.ap b (QC _ hb)
theorem UI.node {N:Addr} {nd:Nd} (u:UI H0 H Lp Ln Lw Lo x pv was nas nds) (at_:dN H N nd) (n:N∉Lp::Ln::Lw::Lo::(was++nas)) (h0:H0 N=none):UI H0 (upd H Lo (.lst ((nas++[N]).map V.ref))) Lp Ln Lw Lo x pv was (nas++[N]) (nds++[nd]):=by
 obtain⟨kvs,en,r⟩:=id u.n;have dl:=u.dl;simp only[QS,Qk,Qx,Xg,not_or]at dl;have kt:aX H (upd H Lo (.lst ((nas++[N]).map V.ref))):=bO u.o;have kb:∀b o,H b=some o->b≠Lo->upd H Lo (.lst ((nas++[N]).map V.ref)) b=some o:=λb o e z=>by rw[aq z];exact e
 simp only[Qk,not_or]at n;have inn:∀b∈was++nas,b≠Lo:=λb hb z=>u.ap b hb (by rw[z];simp);refine⟨λb o e=>kb b o (u.s _ _ e) λz=>?_,kb _ _ u.p dl.1.2.2,af (λ_ _ h=>h.kt kt) u.pp,⟨kvs,kb _ _ en dl.2.1.2,r⟩,kb _ _ u.w dl.2.2.1,bD u.wp λb w hb h=>h.keep kt λvs e=>kb _ _ e (inn b (Q1 _ hb)),ah,aV (bD u.op λb w hb h=>h.keep kt λvs e=>kb _ _ e (inn b (QC _ hb))) (at_.keep kt λvs e=>kb _ _ e n.2.2.2.1),λb hb=>?_,?_,λb hb=>?_,u.dl,u.new⟩
 ·rw[z,u.new Lo (by simp)]at e;cases e
 ·rw[<-List.append_assoc,Qw,QB]at hb;rcases hb with hb|rfl
  ·exact u.ap b hb
  simp only[Qk,Qx,Xg,not_or];exact⟨n.1,n.2.1,n.2.2.1,n.2.2.2.1⟩
 ·rw[List.nodup_append];refine⟨u.nd,by simp,λa ha b hb=>?_⟩;rw[QB.mp hb];exact λz=>n.2.2.2.2 (QC _ (z▸ha))
 rcases Qw.mp hb with hb|hb
 ·exact u.nw b hb
 rw[QB.mp hb];exact h0
end
structure IV (H0 Hs H:Hp) (Lp Ln Lw Lo N q:Addr) (r:Rg) (x:Sx) (pv:List V) (was nas:A3) (nds:List Nd) (p:Pl) (way:List Tu) (sv ndv:List V) (nd:Nd):Prop where
 u:UI H0 H Lp Ln Lw Lo x pv was nas nds
 xo:x.Ok r
 kt:aX Hs H
 hq:H q=some (.lst sv)
 hN:H N=some (.lst ndv)
 pn:Paired (SgA H) ndv nd
 nN:N∉Lp::Ln::Lw::Lo::(was++nas)
 nq:q∉[Lp,Ln,Lw,N]
 gp:x.ps[nds.length]?=some p
 gw:x.ws[nds.length]?=some way
 N0:H0 N=none
section
variable {H0 Hs H H':Hp} {Lp Ln Lw Lo N q:Addr} {r:Rg} {x:Sx} {pv:List V} {was nas:A3} {nds:List Nd} {p:Pl} {way:List Tu} {sv ndv:List V} {nd:Nd}
theorem IV.same (i:IV H0 Hs H Lp Ln Lw Lo N q r x pv was nas nds p way sv ndv nd) (S:ak H H'):IV H0 Hs H' Lp Ln Lw Lo N q r x pv was nas nds p way sv ndv nd :=
 ⟨i.u.same S,i.xo,λb ys e=>S _ _ (i.kt b ys e),S _ _ i.hq,S _ _ i.hN,af (λ_ _ h=>h.kt (ak.tups S)) i.pn,i.nN,i.nq,i.gp,i.gw,i.N0⟩
theorem IV.put {v:V} {e:Str × Nat} (i:IV H0 Hs H Lp Ln Lw Lo N q r x pv was nas nds p way sv ndv nd) (h:SgA H v e):IV H0 Hs (upd H N (.lst (ndv++[v]))) Lp Ln Lw Lo N q r x pv was nas nds p way sv (ndv++[v]) (nd++[e]):=by
 have kt:aX H (upd H N (.lst (ndv++[v]))):=bO i.hN;have kb:∀b o,H b=some o->b≠N->upd H N (.lst (ndv++[v])) b=some o:=λb o e z=>by rw[aq z];exact e
 have nq:=i.nq;simp only[Qk,Qx,Xg,not_or]at nq;exact⟨i.u.keep (bK i.u.s i.N0) kt kb i.nN,i.xo,λb ys e=>kt _ _ (i.kt b ys e),kb _ _ i.hq nq.2.2.2,ah,aV (af (λ_ _ h=>h.kt kt) i.pn) (h.kt kt),i.nN,i.nq,i.gp,i.gw,i.N0⟩
theorem IV.more {p':Pl} {w':List Tu} {v:V} {wl:Addr} (i:IV H0 Hs H Lp Ln Lw Lo N q r x pv was nas nds p way sv ndv nd) (xo:Sx.Ok r ⟨x.ps++[p'],x.ws++[w']⟩) (kb:∀b o,H b=some o->b∉[Lp,Ln,Lw]->H' b=some o) (hp:H' Lp=some (.lst (pv++[v]))) (pa:PlA H' v p') (hn:pN H' Ln (x.ps++[p'])) (hw:H' Lw=some (.lst ((was++[wl]).map V.ref))) (wy:iK H' wl w') (nw:H wl=none) :
  aX H H'/\IV H0 Hs H' Lp Ln Lw Lo N q r ⟨x.ps++[p'],x.ws++[w']⟩ (pv++[v]) (was++[wl]) nas nds p way sv ndv nd:=by
 obtain⟨kt,u'⟩:=i.u.more kb hp pa hn hw wy nw;have nq:=i.nq;have nN:=i.nN;simp only[Qk,Qw,Qx,Xg,not_or]at nq nN;refine⟨kt,u',xo,λb ys e=>kt _ _ (i.kt b ys e),kb _ _ i.hq (by simp only[Qk,Qx,Xg,not_or];exact⟨nq.1,nq.2.1,nq.2.2.1⟩),kb _ _ i.hN (by simp only[Qk,Qx,Xg,not_or];exact⟨nN.1,nN.2.1,nN.2.2.1⟩),af (λ_ _ h=>h.kt kt) i.pn,?_,i.nq,?_,?_,i.N0⟩
 ·simp only[Qk,Qw,Qx,Xg,not_or];exact⟨nN.1,nN.2.1,nN.2.2.1,nN.2.2.2.1,⟨nN.2.2.2.2.1,(aE i.hN nw).symm⟩,nN.2.2.2.2.2⟩
 ·rw[Xx (Qf.mp i.gp).1];exact i.gp
 rw[Xx (Qf.mp i.gw).1];exact i.gw
end
section
theorem kS:FnScope ["ring_sheet", "places", "numbers", "ways", "nodes", "at", "node", "step", "word"] ["ring_sheet"] (av (top 29)):=by fin2
theorem wR {f:Addr} {fd:FuncData} (Fu:Fun K "unfolded" "unfolded" (top 29) f fd) (T:Txt K mg TT) (f_first_marks:Fn P w K mg base "first_marks" ["arcs"] 2 oo) (f_steps_at:Fn P w K mg base "steps_at" ["ring_sheet", "place"] 4 n_) (f_odd_word:Fn P w K mg base "odd_word" ["ring_sheet", "place", "step"] 2 vK):FnOk P w K mg base CX0 5 f fd ["ring_sheet"] vH:=by
 have S:=kS;refine Fu.ok S (by room) (λcdv A outer s H vs Q E hr h=>?_);obtain⟨a,li,lo,l,as,r,rfl,at_,ok,k⟩:=h;have hu:=cY hr;obtain⟨_,gMN⟩:=T.mNODES;have ha:=at_.ha;obtain⟨ts,wt⟩:=xG r;refine'⟨?_,?bb,?_⟩
 case bb =>
  walk_at "b";refine' aL 1 S.nd ?e
  case e =>
   walk_at "q";exact(aJ f_first_marks hr (aa (aj au (pv 0) ae) ac se_sub));exact(aj au (pv 0) ae)
  exact aL 2 S.nd (sj hu (aj aR (pv 1) ae) ae);refine' aL 3 S.nd ?e
  case e =>
   walk_at "q"
  exact aL 4 S.nd (pe_lst ac);refine' gJ PassesOwn.never ?_ ?_;rotate_left 2;exact(aG oP (am ay (by rfl) T.n_len QJ (aa (pv 4) ac ad)) (am ay (by rfl) T.n_len QJ (aa (pv 1) ac ad)) (aF _));walk_at "p";exact aL 5 S.nd (am ay (by rfl) T.n_len QJ (aa (pv 4) ac ad));exact aL 6 S.nd (pe_lst ac);walk_at "f";exact(aZ (aJ f_steps_at hr (aa (pv 0) (aa (aj aR (pv 1) (pv 5)) ac) ad)));exact(bz 7 S.nd);walk_at "p";exact aL 8 S.nd (aJ f_odd_word hr (aa (pv 0) (aa (aj aR (pv 1) (pv 5)) (aa (pv 7) ac ad)) ad));exact(aG uA (pv 8) se rfl);refine' aD ?e
  case e =>
   walk_at "q";exact(aM dh (aj aR (pv 3) (pv 5)) (pe_lst (aa (aj au (pv 7) ae) ac se_sub)));exact(pv 8)
  exact(wK (qj hu (aj au (pv 7) ae) (pv 2)));exact(aG cJ (am ay (by rfl) T.n_len QJ (aa (pv 1) ac ad)) (c8 (v:=.int 40) (by rfl) gMN ⟨_,rfl⟩) (aF _));exact(aD (be (aa ba ac aQ)));exact(fg hu (pv 2) (aj au (pv 7) ae) (am ay (by rfl) T.n_len QJ (aa (pv 1) ac ad)) rfl);exact(cj (bR QE Q3 Q4 br (pv 1) (aa (aj au (pv 7) ae) ac)));refine' cj (bR QE Q3 Q4 br (pv 3) ?a)
  case a =>
   walk_at "q";exact(aM dh (aj aR (pv 3) (pv 5)) (pe_lst (aa (aj au (pv 7) ae) ac se_sub)))
  refine' cj (bR QE Q3 Q4 br (pv 6) ?a)
  case a =>
   walk_at "q";exact(aj au (aj au (pv 7) ae) ae);exact(bU hu (pv 2) (aj au (pv 7) ae))
  exact(cj (bR QE Q3 Q4 br (pv 4) (aa (pv 6) ac ad)));refine' aD ?e
  case e =>
   walk_at "q";exact(bq dL (by rfl) T.n_list PyProof.Rows.boot_list (aa (aj au (pv 0) ae) ac));exact(bq dL (by rfl) T.n_list PyProof.Rows.boot_list (aa (aj au (pv 0) ae) ac));exact(aj au (pv 0) ae);exact(pv 4)
 x_go;lk;refine⟨l,as,r,rfl,at_.arcs,ok,λm0 H1 S1 hm0=>?_⟩;have ha1:=S1 _ _ ha;lk;refine⟨by simp[sizeLine],λp0 hp0=>?_⟩;generalize hE:upd H1 p0 _=H2;obtain⟨S2,q2⟩:=ag hp0 hE;lk;refine⟨by simp[sizeLine],λLp hLp=>?_⟩;generalize hE:upd H2 Lp _=H3;obtain⟨S3,q3⟩:=ag hLp hE;refine λLn hLn=>?_;generalize hE:upd H3 Ln _=H4;obtain⟨S4,q4⟩:=ag hLn hE;have q34:=S4 _ _ q3;lk;have ep:aX H2 H4:=ak.tups (S3.trans S4);have pl0:PlA H2 (.ref p0) (mks r.arcs,r.z):=⟨p0,m0,rfl,q2,S2 _ _ hm0⟩;refine⟨q4,p0,_,rfl,(pl0.kt ep).tk,?_⟩;generalize hE:upd H4 Ln _=H5;have q5:H5 Ln=some (.dT [(tkP (mks r.arcs,r.z),.int 0)]):=by rw[<-hE];exact ah
 have S5:ak H3 H5:=by rw[<-hE];exact bK S4 hLn
 lk;refine⟨by simp[sizeLine],λw0 hw0=>?_⟩;generalize hE:upd H5 w0 _=H6;obtain⟨S6,q6⟩:=ag hw0 hE;lk;refine⟨by simp[sizeLine],λLw hLw=>?_⟩;generalize hE:upd H6 Lw _=H7;obtain⟨S7,q7⟩:=ag hLw hE;lk;refine⟨by simp[sizeLine],λLo hLo=>?_⟩;generalize hE:upd H7 Lo _=H8;obtain⟨S8,q8⟩:=ag hLo hE
 have ui:UI H H8 Lp Ln Lw Lo (Sx.first r) [.ref p0] [w0] [] []:=by
  have S68:=(S6.trans S7).trans S8;have S38:=S5.trans S68;have n1:Ln≠Lp:=aE q3 hLn;have n2:Lw≠Lp:=aE (S6 _ _ (S5 _ _ q3)) hLw;have n3:Lo≠Lp:=aE (S7 _ _ (S6 _ _ (S5 _ _ q3))) hLo;have n4:Lw≠Ln:=aE (S6 _ _ q5) hLw;have n5:Lo≠Ln:=aE (S7 _ _ (S6 _ _ q5)) hLo;have n6:Lo≠Lw:=aE q7 hLo;refine⟨((S1.trans S2).trans S3).trans S38,S38 _ _ q3,.cons (pl0.kt (ak.tups (S3.trans S38))) .nil,uQ _ (S68 _ _ q5),S8 _ _ q7,.cons ⟨[],S8 _ _ (S7 _ _ q6),.nil⟩ .nil,q8,.nil,λb hb=>?_,.nil,(λb hb=>nomatch hb),?_,λb hb=>?_⟩
  ·rw[List.append_nil,QB]at hb;subst hb;simp only[Qk,Qx,Xg,not_or];exact⟨aE (S5 _ _ q3) hw0,aE q5 hw0,(aE q6 hLw).symm,(aE (S7 _ _ q6) hLo).symm⟩
  ·simp only[QS,Qk,Qx,Xg,not_or,not_false_iff,List.nodup_nil,and_true];exact⟨⟨n1.symm,n2.symm,n3.symm⟩,⟨n4.symm,n5.symm⟩,n6.symm⟩
  have S12:=S1.trans S2;have S13:=S12.trans S3;have S16:=S13.trans (S5.trans S6);simp only[Qk,Qx,Xg]at hb;rcases hb with rfl|rfl|rfl|rfl
  ·exact bN S12 hLp
  ·exact bN S13 hLn
  ·exact bN S16 hLw
  exact bN (S16.trans S7) hLo
 refine aw (s_seq ?_);let I2:IvF:=λm U H'=>∃x pv was nas nds y5 y6 y7 y8,U=[some (.ref a),some (.ref Lp),some (.ref Ln),some (.ref Lw),some (.ref Lo),y5,y6,y7,y8]/\UI H H' Lp Ln Lw Lo x pv was nas nds/\x.Ok r/\nds.length<=x.ps.length/\m+nds.length=40/\K2.outer r ts (m+1) x nds=unf r ts;refine⟨I2,⟨40,_,_,_,_,_,none,none,none,none,rfl,ui,tM ok,QU _,rfl,rfl⟩,?_⟩;rintro m U H' ⟨x,pv,was,nas,nds,y5,y6,y7,y8,rfl,u,xo,hn,hm,hR⟩;have hLp':=u.p;have hLo':=u.o;have lp:=ar u.pp;have lo_:=ar u.op;have at':=at_.same u.s;lk;rw[Qc,lo_,lp];unfold K2.outer at hR;by_cases c:nds.length<x.ps.length
 ·refine ifT (QA (by omega)) ?_;rw[Qs c]at hR;obtain⟨m1,rfl⟩:∃m1,m=m1+1:=⟨m-1,by have:=xo.2.2.1;omega⟩;refine⟨_,λσ' H2 h=>⟨m1,Nat.lt_succ_self _,h⟩,?_⟩;have gp:=Sx.p_mem c;have gw:=Sx.w_mem (x:=x) (i:=nds.length) (by rw[xo.1];exact c);generalize x.p nds.length=p at hR gp;generalize x.wy nds.length=way at hR gw;have po:=xo.2.2.2.1 p (Ql gp);obtain⟨vp,gvp,plp⟩:=bo u.pp gp;lk;rw[Qc,lo_];refine⟨by simp[sizeLine],λN hN=>?_⟩;generalize hE:upd H' N _=G1;obtain⟨T1,qN⟩:=ag hN hE;have uN:=u.same T1;have hLp1:=uN.p;lk;refine i_ixL (SqL.of hLp1) (cw gvp) ?_;refine bf ⟨a,li,lo,l,as,r,vp,p,rfl,at'.same T1,ok,plp.kt (ak.tups T1),po,λq sv ts' G2 T2 nq hq wt' psv=>?_⟩;obtain rfl:ts'=ts:=wt'.one wt λ_=>Iff.rfl;refine⟨q,rfl,⟨_,SqL.of hq⟩,?_⟩
  have iv:IV H G2 G2 Lp Ln Lw Lo N q r x pv was nas nds p way sv [] []:=by
   have u2:=uN.same T2;obtain⟨kvs,en,_⟩:=id uN.n;obtain⟨kvs',en',_⟩:=id u.n
   have was_at:∀b∈was++nas,∃o,H' b=some o:=λb hb=>by
    rcases Qw.mp hb with hb|hb
    ·obtain⟨i,hi,rfl⟩:=QX hb;obtain⟨y,_,vs,e,_⟩:=paired_get u.wp (Qd hi);exact⟨_,e⟩
    obtain⟨i,hi,rfl⟩:=QX hb;obtain⟨y,_,vs,e,_⟩:=paired_get u.op (Qd hi);exact⟨_,e⟩
   refine⟨u2,xo,λ_ _ e=>e,hq,T2 _ _ qN,.nil,?_,?_,gp,gw,bN u.s hN⟩
   ·simp only[Qk,not_or];refine⟨aE u.p hN,aE en' hN,aE u.w hN,aE u.o hN,λz=>?_⟩;obtain⟨o,e⟩:=was_at _ z;rw[e]at hN;cases hN
   simp only[Qk,Qx,Xg,not_or];exact⟨aE uN.p nq,aE en nq,aE uN.w nq,aE qN nq⟩
  generalize eR:bv r p.2 way (bh r ts' p) x []=R at hR;let I3:IvF:=λi U H2=>∃x pv was ndv nd y7 y8,U=[some (.ref a),some (.ref Lp),some (.ref Ln),some (.ref Lw),some (.ref Lo),some (.int (nds.length:Nat)),some (.ref N),y7,y8]/\IV H G2 H2 Lp Ln Lw Lo N q r x pv was nas nds p way sv ndv nd/\bv r p.2 way ((bh r ts' p).drop i) x nd=R/\nd.length=i;refine dy (xs:=sv) I3 ⟨x,pv,was,[],[],y7,y8,rfl,iv,by rw[List.drop_zero];exact eR,rfl⟩ (λi U H2 _ ⟨_,_,_,_,_,_,_,_,iv,_⟩=>SqL.of iv.hq) (λi v U H2 ev h=>?_) (λU H2 h=>?_)
  ·obtain⟨x,pv,was,ndv,nd,y7,y8,rfl,iv,hI,hnd⟩:=h;obtain⟨s,es,sa⟩:=paired_get psv ev;have sa:=sa.kt iv.kt;obtain⟨sb,v1,v2,rfl,hsb,tu,pl2⟩:=id sa;obtain⟨ta,rfl,hta⟩:=id tu;obtain⟨pb,mb,rfl,hpb,hmb⟩:=id pl2;obtain⟨vp,gvp,plp⟩:=bo iv.u.pp iv.gp;obtain⟨t,mt,et⟩:=Qm.mp (Ql es);obtain⟨mt,may⟩:=Q2.mp mt;have tok:=Wt.ok ok wt mt;have ssl:(bh r ts' p).length<=10:=by unfold bh;rw[Qc];exact QK (List.length_filter_le _ _) (Wt.few ok wt)
   have il:=(Qf.mp es).1;have ndl:=ar iv.pn;have big:1000<sizeLine:=by decide
   rw[List.drop_eq_getElem_cons il,(Qf.mp es).2]at hI;have hLp2:=iv.u.p;have at2:=at_.same iv.u.s;lk;refine i_ixL (SqL.of hLp2) (cw gvp) ?_;lk;refine⟨a,li,lo,l,as,r,vp,.ref sb,p,s,rfl,at2,ok,plp,po,sa,by rw[<-et];exact tok,λG3 T3=>?_⟩;have iv3:=iv.same T3;have hsb3:=T3 _ _ hsb;have hta3:=T3 _ _ hta;lk;refine⟨rfl,_,rfl,?_⟩
   cases co:cV r p.2 s with
   | some wd =>
    refine ifT (by rw[Qy (λz=>by cases z)];rfl) ?_;have hLw3:=iv3.u.w;obtain⟨wl,gwl,wvs,hwl,wpr⟩:=bo iv3.u.wp iv3.gw;have wl10:way.length<41:=by have:=iv3.xo.2.2.2.2 way (Ql iv3.gw);have:=iv3.xo.1;have:=iv3.xo.2.2.1;omega
    lk;refine i_ixL (SqL.of hLw3) (cw (by rw[Qv,gwl];rfl)) ?_;lk;refine⟨by simp[sizeLine],λp1 h1=>?_⟩;generalize hE:upd G3 p1 _=G4;obtain⟨T4,q4⟩:=ag h1 hE;have wl2:=ar wpr;refine eM (T4 _ _ hwl) q4 (by rw[QL];omega) λp2 h2=>?_;generalize hE:upd G4 p2 _=G5;obtain⟨T5,q5⟩:=ag h2 hE;lk;refine⟨by simp[sizeLine],λp3 h3=>?_⟩;generalize hE:upd G5 p3 _=G6;obtain⟨T6,q6⟩:=ag h3 hE;have TT:=(T4.trans T5).trans T6;refine k (.ref p3) ts' G6 (iv3.u.s.trans TT) wt ?_
    have eU:unf r ts'=.odd (way++[s.1]) wd:=by
     unfold bv at hI;rw[co]at hI;rw[<-hR,<-hI]
    rw[eU];exact⟨p3,p2,rfl,q6,bN (iv3.u.s.trans T4) h2,_,T6 _ _ q5,aV (af (λ_ _ h=>h.kt (ak.tups TT)) wpr) (tu.kt (ak.tups (T3.trans TT)))⟩
   | none =>
   refine ifF rfl ?_;refine s_next ?_;unfold bv at hI;rw[co]at hI;dsimp only at hI;let I4:IvJ:=λU G=>∃x' pv' was',U=[some (.ref a),some (.ref Lp),some (.ref Ln),some (.ref Lw),some (.ref Lo),some (.int (nds.length:Nat)),some (.ref N),some (.ref sb),some .non]/\IV H G2 G Lp Ln Lw Lo N q r x' pv' was' nas nds p way sv ndv nd/\aX G3 G/\s.2∈x'.ps/\bv r p.2 way ((bh r ts' p).drop (i+1)) x' (nd++[(s.1.1,x'.ps.idxOf s.2)])=R;with_reducible refine cH I4 (λRR hJ=>?_) (λU G h=>?_)
   ·obtain⟨kvs,en,kl,kv⟩:=id iv3.u.n;have pl3:=pl2.kt (ak.tups T3);refine s_if (i_tB (tI ?_));lk;refine⟨Ln,_,rfl,dj.t en pl3.tk,_,rfl,?_⟩;rw[kv];by_cases c:s.2∈x.ps
    ·rw[Qs c]at hI ⊢;exact ifF rfl (s_next (hJ _ _ ⟨x,pv,was,rfl,iv3,λ_ _ e=>e,c,hI⟩))
    rw[Qq c]at hI ⊢;refine ifT rfl ?_;have hLp3:=iv3.u.p;have lp3:=ar iv3.u.pp;lk;rw[lp3];by_cases c40:x.ps.length=40
    ·rw[Qs c40]at hI;refine ifT (QA (by rw[c40];rfl)) ?_;lk;refine⟨by simp[sizeLine],λp3 h3=>?_⟩;generalize hE:upd G3 p3 _=G6;obtain⟨T6,q6⟩:=ag h3 hE;refine k (.ref p3) ts' G6 (iv3.u.s.trans T6) wt ?_;have eU:unf r ts'=.many:=by rw[<-hR,<-hI]
     rw[eU];exact⟨p3,rfl,q6⟩
    rw[Qq c40]at hI;refine ifF (Qy (λz=>c40 (by have:=V.int.inj z;omega))) ?_;kt_k;kt_k;refine gG ?_;lk;rw[lp3];have l40:=iv3.xo.2.2.1;refine⟨Ln,_,rfl,iM.t en pl3.tk (by omega),?_⟩;generalize hE4:upd G3 Ln _=G4;have dl:=iv3.u.dl;simp only[QS,Qk,Qx,Xg,not_or]at dl;obtain⟨wl,gwl,wvs,hwl,wpr⟩:=bo iv3.u.wp iv3.gw;have apw:=iv3.u.ap wl (Q1 _ (Ql gwl));simp only[Qk,Qx,Xg,not_or]at apw;have wl2:=ar wpr;have wl10:way.length<x.ws.length:=iv3.xo.2.2.2.2 way (Ql iv3.gw);have wsl:=iv3.xo.1;have k4:∀b o,G3 b=some o->b≠Ln->G4 b=some o:=λb o e z=>by rw[<-hE4,aq z];exact e
    have q4:G4 Ln=some (.dT (bI kvs (tkP s.2) (.int (x.ps.length:Nat)))):=by rw[<-hE4];exact ah
    have hLp4:=k4 _ _ hLp3 dl.1.1;have hsb4:=k4 _ _ hsb3 (λz=>by rw[z,en]at hsb3;cases hsb3);have hta4:=k4 _ _ hta3 (λz=>by rw[z,en]at hta3;cases hta3);lk;refine d0 hLp4 (by omega) ?_;generalize hE5:upd G4 Lp _=G5;have k5:∀b o,G4 b=some o->b≠Lp->G5 b=some o:=λb o e z=>by rw[<-hE5,aq z];exact e
    have q5:G5 Lp=some (.lst (pv++[.ref pb])):=by rw[<-hE5];exact ah
    have hLw5:=k5 _ _ (k4 _ _ iv3.u.w (λz=>dl.2.1.1 z.symm)) (λz=>dl.1.2.1 z.symm);have hwl5:=k5 _ _ (k4 _ _ hwl apw.2.1) apw.1;have hsb5:=k5 _ _ hsb4 (λz=>by rw[z,hLp4]at hsb4;cases hsb4);have hta5:=k5 _ _ hta4 (λz=>by rw[z,hLp4]at hta4;cases hta4);lk;refine i_ixL (SqL.of hLw5) (cw (by rw[Qv,gwl];rfl)) ?_;lk;refine⟨by simp[sizeLine],λp1 h1=>?_⟩;generalize hE:upd G5 p1 _=G6;obtain⟨T6,q6⟩:=ag h1 hE;refine eM (T6 _ _ hwl5) q6 (by rw[QL];omega) λp2 h2=>?_;generalize hE:upd G6 p2 _=G7;obtain⟨T7,q7⟩:=ag h2 hE;have hLw7:=T7 _ _ (T6 _ _ hLw5);have wal:=ar iv3.u.wp;refine bf (d0 hLw7 (by rw[Qc];omega) ?_);generalize hE8:upd G7 Lw _=G8;have k8:∀b o,G7 b=some o->b≠Lw->G8 b=some o:=λb o e z=>by rw[<-hE8,aq z];exact e
    have kb:∀b o,G3 b=some o->b∉[Lp,Ln,Lw]->G8 b=some o:=λb o e nb=>by
     simp only[Qk,Qx,Xg,not_or]at nb;exact k8 _ _ (T7 _ _ (T6 _ _ (k5 _ _ (k4 _ _ e nb.2.1) nb.1))) nb.2.2
    have no2:2∉s.2.1:=λz=>by
     unfold cV at co;rw[Qs z]at co
     split at co <;> cases co
    have xo':Sx.Ok r ⟨x.ps++[s.2],x.ws++[way++[s.1]]⟩:=by
     refine⟨by rw[Qh,Qh,wsl];rfl,by rw[Qh,QL];omega,by rw[Qh,QL];omega,λp' hp'=>?_,λw' hw'=>?_⟩
     ·rcases Qw.mp hp' with h|h
      ·exact iv3.xo.2.2.2.1 p' h
      rw[QB.mp h,<-et];exact kL po tok may (by rw[et];exact no2)
     show _<(x.ws++[way++[s.1]]).length;rw[Qh,QL];rcases Qw.mp hw' with h|h
     ·have:=iv3.xo.2.2.2.2 w' h;omega
     rw[QB.mp h,Qh,QL];omega
    have kt3:aX G3 G8:=vW (Os:=[Lp,Ln,Lw]) (λb hb ys e=>by
     simp only[Qk,Qx,Xg]at hb;rcases hb with rfl|rfl|rfl
     ·rw[hLp3]at e;cases e
     ·rw[en]at e;cases e
     rw[iv3.u.w]at e;cases e) kb
    have hp2:p2≠Lw:=aE (T6 _ _ hLw5) h2
    have hw2:G3 p2=none:=by
     cases e:G3 p2 with
     | none=>rfl
     | some o =>
     by_cases z1:p2=Lp
     ·rw[z1,T6 _ _ q5]at h2;cases h2
     by_cases z2:p2=Ln
     ·rw[z2,T6 _ _ (k5 _ _ q4 (λz=>dl.1.1 z.symm))]at h2;cases h2
     rw[T6 _ _ (k5 _ _ (k4 _ _ e z2) z1)]at h2;cases h2
    obtain⟨kt8,iv8⟩:=iv3.more (p':=s.2) (w':=way++[s.1]) (v:=.ref pb) (wl:=p2) (H':=G8) xo' kb (k8 _ _ (T7 _ _ (T6 _ _ q5)) dl.1.2.1) (pl3.kt kt3)
     ⟨_,k8 _ _ (T7 _ _ (T6 _ _ (k5 _ _ q4 (λz=>dl.1.1 z.symm)))) dl.2.1.1,QK (bX _ _ _) (by rw[Qh,QL];omega),uP c kv⟩
     (by rw[<-hE8,ah,QI];rfl) ⟨_,k8 _ _ q7 hp2,aV (af (λ_ _ h=>h.kt kt3) wpr) ((tu.kt (ak.tups T3)).kt kt3)⟩ hw2
    refine hJ _ _ ⟨_,_,_,rfl,iv8,kt8,QC _ (List.mem_singleton_self _),?_⟩;rw[show (x.ps++[s.2]).idxOf s.2=x.ps.length by rw[List.idxOf_append,Qq c];simp];exact hI
   obtain⟨x',pv',was',rfl,iv',kt',ms,hI'⟩:=h;obtain⟨kvs,en,kl,kv⟩:=id iv'.u.n;have hsb':=kt' _ _ hsb3;have hta':=kt' _ _ hta3;have hN':=iv'.hN;have pl':=(pl2.kt (ak.tups T3)).kt kt';lk;refine⟨Ln,_,rfl,by have z:=dj.t en pl'.tk;rw[kv,Qs ms]at z;exact z,?_⟩;lk;refine⟨by simp[sizeLine],λp5 h5=>?_⟩;generalize hE:upd G p5 _=G6;obtain⟨T6,q6⟩:=ag h5 hE;have iv6:=iv'.same T6;refine bf (d0 iv6.hN (by omega) ?_);exact⟨x',pv',was',_,_,_,_,rfl,iv6.put ⟨p5,rfl,q6⟩,hI',by rw[Qh,hnd];rfl⟩
  obtain⟨x,pv,was,ndv,nd,y7,y8,rfl,iv,hI,hnd⟩:=h;rw[List.drop_of_length_le (Nat.le_of_eq (ar psv).symm)]at hI;unfold bv at hI;rw[<-hI]at hR;have hLo2:=iv.u.o;have gl:=(Qf.mp iv.gp).1;have big:1000<sizeLine:=by decide
  have l40:=iv.xo.2.2.1;lk;refine d0 hLo2 (by rw[Qc,lo_];omega) ?_;have un:=iv.u.node ⟨ndv,iv.hN,iv.pn⟩ iv.nN iv.N0;rw[QI]at un;exact⟨x,pv,was,nas++[N],nds++[nd],_,_,_,_,rfl,un,iv.xo,by rw[Qh,QL];exact gl,by rw[Qh,QL];omega,hR⟩
 refine ifF (Qy (by omega)) ?_;rw[Qq c]at hR;have ha':=at'.ha;have hi':=at'.hi;lk;refine λli2 h2=>?_;generalize hE:upd H' li2 _=H9;obtain⟨S9,q9⟩:=ag h2 hE;have ha9:=S9 _ _ ha';have ho9:=S9 _ _ at'.ho;lk;refine λlo2 h3=>?_;generalize hE:upd H9 lo2 _=Ha;obtain⟨Sa,qa⟩:=ag h3 hE;have haa:=Sa _ _ ha9;lk;refine⟨by simp[sizeLine],λs2 h4=>?_⟩;generalize hE:upd Ha s2 _=Hb;obtain⟨Sb,qb⟩:=ag h4 hE;lk;refine⟨by simp[sizeLine],λa2 h5=>?_⟩;generalize hE:upd Hb a2 _=Hc;obtain⟨Sc,qc⟩:=ag h5 hE;have Sall:ak H' Hc:=((S9.trans Sa).trans Sb).trans Sc;refine k (.ref a2) ts Hc (u.s.trans Sall) wt ?_;rw[<-hR];have uc:=u.same Sall;have e1:li2≠Lo:=λz=>by rw[z,hLo']at h2;cases h2
 have e2:lo2≠li2:=λz=>by rw[z,q9]at h3;cases h3
 have e3:lo2≠Lo:=λz=>by rw[z,S9 _ _ hLo']at h3;cases h3
 have nas_at:∀b∈nas,∃o,H' b=some o:=λb hb=>by
  obtain⟨i,hi,rfl⟩:=QX hb;obtain⟨y,_,vs,e,_⟩:=paired_get u.op (Qd hi);exact⟨_,e⟩
 have e4:li2∉nas:=λz=>by obtain⟨o,e⟩:=nas_at _ z;rw[e]at h2;cases h2
 have e5:lo2∉nas:=λz=>by obtain⟨o,e⟩:=nas_at _ z;rw[S9 _ _ e]at h3;cases h3
 have e6:Lo∉nas:=λz=>u.ap _ (QC _ z) (by simp);refine⟨a2,s2,li2,lo2,Lo,nas,rfl,qc,Sc _ _ qb,Sc _ _ (Sb _ _ (Sa _ _ q9)),Sc _ _ (Sb _ _ qa),uc.o,uc.op,?_,?_⟩
 ·simp only[QS,Qk,not_or];exact⟨⟨e2.symm,e1,e4⟩,⟨e3,e5⟩,e6,u.nd⟩
 intro b hb;simp only[Qk]at hb;rcases hb with rfl|rfl|rfl|hb
 ·exact bN u.s h2
 ·exact bN (u.s.trans S9) h3
 ·exact u.new _ (by simp)
 exact u.nw b hb
end
def rG (K:PySem.W.Frag):Sp:=λvs H Q _=>∃(s:Addr) (ns:List Int) (k:Nat),vs=[.ref s,.int (k:Int)]/\SqL K H s (ns.map V.int)/\k<=100/\∀(D:Dk) H',D.n=3700->ak H H'->H D.d=none->D.At H'->Q (.ref D.d) H'
theorem uT {x y:Int} (x0:0<=x) (x1:x<9999999607) (y0:0<=y) (y1:y<=100000):0<=(x+991)*(29*y+59)+3517*y*y/\(x+991)*(29*y+59)+3517*y*y<1000000000000000000:=by
 have a0:0<=(x+991)*(29*y+59):=Int.mul_nonneg (by omega) (by omega);have a1:(x+991)*(29*y+59)<=10000000598*2900059:=Int.mul_le_mul (by omega) (by omega) (by omega) (by omega);have b0:0<=3517*y*y:=Int.mul_nonneg (by omega) y0;have b1:3517*y*y<=351700000*100000:=Int.mul_le_mul (by omega) y1 y0 (by omega);omega
section
theorem kZ:FnScope ["script", "k", "cell"] ["script", "k"] (av (top 31)):=by fin2
theorem uH {f:Addr} {fd:FuncData} (Fu:Fun K "_law_pool" "_law_pool" (top 31) f fd) (T:Txt K mg TT):FnOk P w K mg base CX0 1 f fd ["script", "k"] (rG K):=by
 have S:=kZ;refine Fu.ok S (by room) (λcdv A outer s H vs Q E hr h=>?_);obtain⟨s,ns,k,rfl,hS,k100,q⟩:=h
 refine⟨_,(aK (rX (i:=2) S.nd rfl (by z_go) ae)
  (aK (ps_if (aG oP (pv 1) (am ay (by rfl) T.n_len QJ (aa (pv 0) ac ad)) (aF _)) (aI (aL 2 S.nd (aj aR (pv 0) (pv 1)))) pss_nil)
  (aK (ps_if (aG vT (pv 2) (aM sy ae ae) (aF _)) (aI (aD (pe_lst (aa (aM gT (pv 2) (aM sy ae ae)) (aa ae (aa ae ac aQ) aQ))))) pss_nil)
  (aI (aD (pe_lst (aa (pv 2) (aa ae (aa (aM dE ae (pv 1)) ac) aQ) ad))))))),?_⟩
 x_go;lk;refine⟨_,_,rfl,Or.inl hS,?_⟩;lk;rw[Qc]
 have J:∀(a b:Int) p,0<=b->b<=3700->H p=none->∀x,upd H p (.lst [.int a,.int x,.int b])=upd H p (.lst [.int a,.int x,.int b])->Q (.ref p) (upd H p (.lst [.int a,.int x,.int b])):=λa b p b0 b1 hp x _ =>
  q ⟨p,3700⟩ _ rfl (aC hp) hp ⟨_,_,_,ah,b0,b1⟩
 by_cases c:k<ns.length
 ·refine ifT (QA (by omega)) ?_;lk;refine i_ixL (v:=.int ns[k]) hS (cw (by rw[Qv,Qd c];rfl)) ?_;lk
  first|refine i_rI ⟨by decide,by decide,by decide⟩ ?_|skip
  lk;refine jS (λ_=>?_) (λ_=>?_)
  ·lk
   first|refine i_rI ⟨by decide,by decide,by decide⟩ ?_|skip
   lk;refine⟨by simp[sizeLine],λp hp=>?_⟩;exact J _ _ p (by omega) (by omega) hp _ rfl
  lk;refine⟨by simp[sizeLine],λp hp=>?_⟩;exact J _ _ p (by omega) (by omega) hp _ rfl
 refine ifF (Qy (by omega)) ?_;lk
 first|refine i_rI ⟨by decide,by decide,by decide⟩ ?_|skip
 lk;refine jS (λ_=>?_) (λ_=>?_)
 ·lk
  first|refine i_rI ⟨by decide,by decide,by decide⟩ ?_|skip
  lk;refine⟨by simp[sizeLine],λp hp=>?_⟩;exact J _ _ p (by omega) (by omega) hp _ rfl
 lk;refine⟨by simp[sizeLine],λp hp=>?_⟩;exact J _ _ p (by omega) (by omega) hp _ rfl
theorem kX:FnScope ["pool", "many", "found", "step", "mark"] ["pool", "many"] (av (top 32)):=by fin2
theorem uF {f:Addr} {fd:FuncData} (Fu:Fun K "_law_take" "_law_take" (top 32) f fd) (T:Txt K mg TT):FnOk P w K mg base CX0 1 f fd ["pool", "many"] eQ:=by
 have S:=kX;refine Fu.ok S (by room) (λcdv A outer s H vs Q E hr h=>?_);obtain⟨D,m,rfl,DA,n1,h1,h2,k⟩:=h
 refine⟨_,(aK (ps_if (aG cJ (aj aR (pv 0) ae) ae (aF _)) (aK (aL 2 S.nd (aM fI (aj aR (pv 0) ae) (pv 1)))
  (aK (gK (aM oR (aj aR (pv 0) ae) (pv 1)) (r9 (pv 0) ae kR))
  (aI (aD (pv 2))))) pss_nil)
  (aK (gK (aM cA (aj aR (pv 0) ae) ae) (r9 (pv 0) ae kR))
  (aK (aL 3 S.nd (aj aR (pv 0) ae))
  (aK (aL 4 S.nd (aM dE (aM cA (aM fI (aj aR (pv 0) ae) ae) ae) (aM cA (aM dE ae (pv 3)) ae)))
  (aK (aL 4 S.nd (aM cA (pv 4) (aM dE (aM dE ae (pv 3)) (pv 3))))
  (aK (aL 4 S.nd (aM fI (aM dE (pv 4) (pv 4)) ae))
  (aI (aD (aM fI (aM oR (aM fI (aM dE (pv 4) (aM cA (pv 4) ae)) ae) ae) (pv 1)))))))))),?_⟩
 x_go;obtain⟨a,b,c,hd,c0,c1⟩:=id DA;lk;refine jS (λ_=>?_) (λ_=>?_)
 ·lk
  first|refine i_rI (show (0:Int)<m by omega) ?_|skip
  lk
  first|refine i_rI ⟨by omega,by omega⟩ ?_|skip
  lk;exact k _ _ (Int.emod_nonneg _ (by omega)) (Int.emod_lt_of_pos _ (by omega)) ((vX (D:=D) c0 c1).le (QP _ _))
 lk;have hd2:upd H D.d (HO.lst ([V.int a,V.int b,V.int c].set (Int.toNat 2) (V.int (c+1)))) D.d=some (.lst [.int a,.int b,.int (c+1)]):=ah;have kp:Kp (D.more 1) H (upd H D.d (HO.lst ([V.int a,V.int b,V.int c].set (Int.toNat 2) (V.int (c+1))))):=vX (D:=D.more 1) (by omega) (by show c+1<=((D.n+1:Nat):Int);omega);generalize upd H D.d (HO.lst ([V.int a,V.int b,V.int c].set (Int.toNat 2) (V.int (c+1))))=H1 at *;lk;obtain⟨M0,M1⟩:=uT (x:=a % 9999999607) (y:=c+1) (Int.emod_nonneg _ (by decide)) (Int.emod_lt_of_pos _ (by decide)) (by omega) (by omega);generalize (a % 9999999607+991)*(29*(c+1)+59)+3517*(c+1)*(c+1)=M at *;refine i_rI (.inl ⟨by omega,by omega⟩) ?_;lk;have N0:=Int.emod_nonneg (M*M) (show (99999999647:Int)≠0 by decide);have N1:=Int.emod_lt_of_pos (M*M) (show (0:Int)<99999999647 by decide);generalize M*M % 99999999647=N at *
 first|refine i_rI (.inl ⟨by omega,by omega⟩) ?_|skip
 lk
 first|refine i_rI (show (0:Int)<m by omega) ?_|skip
 exact k _ _ (Int.emod_nonneg _ (by omega)) (Int.emod_lt_of_pos _ (by omega)) kp
end
theorem dG {T:List Nat}:∀(zs:List Str),(∀z∈zs,∃c∈T,z=⟨#[c]⟩)->((zs.map (·.cps.toList)).flatten).length=zs.length/\(∀c∈(zs.map (·.cps.toList)).flatten,c∈T)/\(zs.map (·.length)).sum=zs.length
 | [],_=>⟨rfl,λc h=>(Qx h).elim,rfl⟩
 | z::zs,h=>by
  obtain⟨c,hc,rfl⟩:=h z (by simp);obtain⟨e1,e2,e3⟩:=dG zs λz hz=>h z (Qu _ hz);refine⟨?_,λd hd=>?_,?_⟩
  ·simp only[Qt,List.flatten_cons,Qh,e1,Xh];show (#[c]:Array Nat).toList.length+zs.length=_;simp;omega
  ·simp only[Qt,List.flatten_cons,Qw]at hd;rcases hd with hd|hd
   ·have:d=c:=by simpa using hd
    rw[this];exact hc
   exact e2 d hd
  simp only[Qt,List.sum_cons,Xh,e3];show (#[c]:Array Nat).size+zs.length=_;simp;omega
variable {zs ns ms ins outs:List Str}
theorem je {T:List Nat} (h:∀z∈zs,∃c∈T,z=⟨#[c]⟩):(Txt.join Str.empty zs).cps.size=zs.length/\∀c∈(Txt.join Str.empty zs).cps.toList,c∈T:=by
 obtain⟨e1,e2,_⟩:=dG zs h;rw[<-Qg,qQ];exact⟨e1,e2⟩
theorem vj {t:Str} {r:Int} (h0:0<=r) (h1:r<t.cps.size):∃c,atI t.cps.toList r=some c/\c∈t.cps.toList:=by
 have hr:r.toNat<t.cps.toList.length:=by rw[Qg];omega
 refine⟨t.cps.toList[r.toNat],?_,Xi hr⟩;have e:r=((r.toNat:Nat):Int):=by omega
 have q:=cw (xs:=t.cps.toList) (j:=r.toNat) (v:=t.cps.toList[r.toNat]) (Qd hr);rw[<-e]at q;exact q
def Lt:Str := "abcdefghijklmnopqrstuvwxyz"
def Xn (t:Nat):Str:=Txt.mul ⟨#[Lt.cps.getD t 0]⟩ 8
theorem xE:∀i,i<26->∀j,j<26->Xn i=Xn j->i=j:=by decide +kernel
theorem xD:∀t,t<26->(Xn t).length=8:=by decide +kernel
theorem yd (c:Nat):MulOk ⟨#[c]⟩ 8:=by
 refine⟨by decide,λ_ _=>?_,λ_ _=>?_⟩
 ·show ¬((1:Int)>(2 ^ 63-1) / 8)
  decide
 rfl
theorem pigeon:∀(xs ys:List Str),xs.Nodup->(∀x∈xs,x∈ys)->xs.length<=ys.length
 | [],ys,_,_=>QU _
 | x::xs,ys,nd,h=>by
  rw[QS]at nd;have hx:=h x (by simp);have:=pigeon xs (ys.erase x) nd.2 λy hy=>(List.mem_erase_of_ne (λz:y=x=>nd.1 (by rw[<-z];exact hy))).mpr (h y (Qu _ hy));rw[List.length_erase_of_mem hx]at this;have:0<ys.length:=List.length_pos_of_mem hx;rw[Xh];omega
theorem mB:∀t,t<=26->((List.range t).map Xn).Nodup
 | 0,_=>by simp
 | t+1,h=>by
  rw[List.range_succ,QI,List.nodup_append];refine⟨mB t (by omega),by simp,λa ha b hb e=>?_⟩;obtain⟨i,hi,rfl⟩:=Qm.mp ha;rw[Xz]at hi;have:b=Xn t:=by simpa using hb
  subst this;have:=xE i (by omega) t (by omega) e;omega
theorem yu {t:Nat} (ht:t<=26) (h:∀j,j<t->Xn j∈ns):t<=ns.length:=by
 have:=pigeon ((List.range t).map Xn) ns (mB t ht) λx hx=>by
  obtain⟨j,hj,rfl⟩:=Qm.mp hx;exact h j (Xz.mp hj)
 simpa using this
structure NmOk (b:Nat) (z:Str):Prop where
 pos:1<=z.length
 lt:z.length<b
theorem vi (h:ns≠[]):∃n∈ns,atI (ns.map V.str) (-1)=some (.str n):=by
 have hl:0<ns.length:=List.length_pos_iff.mpr h;refine⟨ns[ns.length-1],Xi _,?_⟩
 have e:ixN (ns.map V.str).length (-1)=some (ns.length-1):=by
  unfold ixN;rw[Qc,Qq (by decide),Qs (by omega)];congr 1;omega
 unfold atI;rw[e];show (ns.map V.str)[ns.length-1]?=_;rw[Qv,Qd (by omega)];rfl
theorem vh {ws:List Str} {r:Int} (h0:0<=r) (h1:r<ws.length):∃n∈ws,atI (ws.map V.str) r=some (.str n):=by
 have hr:r.toNat<ws.length:=by omega
 refine⟨ws[r.toNat],Xi hr,?_⟩;have e:r=((r.toNat:Nat):Int):=by omega
 have q:=cw (xs:=ws.map V.str) (j:=r.toNat) (v:=.str ws[r.toNat]) (by rw[Qv,Qd hr];rfl);rw[<-e]at q;exact q
theorem gk {nm:Str}:∀{ns:List Str},inV (.str nm) (ns.map V.str)=true↔nm∈ns
 | []=>by simp[inV]
 | x::ns=>by
  have ih:=gk (nm:=nm) (ns:=ns);unfold inV at ih ⊢;rw[Qt,List.any_cons,Bool.or_eq_true,ih,Qk]
  have:eqV (.str x) (.str nm)=true↔nm=x:=by
   show decide (x=nm)=true↔_;rw[decide_eq_true_iff];exact⟨λh=>h.symm,λh=>h.symm⟩
  rw[this]
theorem fR (ns:List Str):(ns.map V.str).all bZ=true:=by
 rw[Xb];intro x hx;obtain⟨y,_,rfl⟩:=Qm.mp hx;rfl
theorem lap (a b:Str):(a++b).length=a.length+b.length:=by show (a.cps++b.cps).size=_;rw[Array.size_append];rfl
structure NmL (z:Str):Prop where
 pos:1<=z.length
 l8:z.length<=8
 lw:∀c∈z.cps.toList,97<=c/\c<=122
theorem nv (h:c∈Lt.cps.toList):97<=c/\c<=122:=(by decide +kernel:∀c∈Lt.cps.toList,97<=c/\c<=122) c h
theorem lK (z:Str):z.length=z.cps.toList.length:=(Qg ..).symm
theorem iw (a b:Str):(a++b).cps.toList=a.cps.toList++b.cps.toList:=by show (a.cps++b.cps).toList=_;simp
theorem sP {r:Int} (h7:z.length=7) (lw:∀c∈z.cps.toList,97<=c/\c<=122) (h0:0<=r) (h1:r<8) (hc:c∈Lt.cps.toList):NmL (Txt.slice z none (some r)++⟨#[c]⟩):=by
 obtain⟨j,rfl⟩:∃j:Nat,r=(j:Int):=⟨r.toNat,by omega⟩;have hs:z.cps.size=7:=h7;have e:=ff (z:=z) (j:=j) (by omega);have el:(Txt.slice z none (some (j:Int))++⟨#[c]⟩).cps.toList=z.cps.toList.take j++[c]:=by rw[iw,e]
 have ll:(Txt.slice z none (some (j:Int))++⟨#[c]⟩).length=j+1:=by
  rw[lK,el,Qh,QM,Qg];show min j z.cps.size+1=_;omega
 refine⟨by omega,by omega,λd hd=>?_⟩;rw[el]at hd;rcases Qw.mp hd with h|h
 ·exact lw d (List.mem_of_mem_take h)
 rw[QB.mp h];exact nv hc
theorem sQ (h:∀z∈zs,∃c∈Lt.cps.toList,z=⟨#[c]⟩) (h1:1<=zs.length) (h8:zs.length<=8):NmL (Txt.join Str.empty zs):=by
 obtain⟨js,jl⟩:=je h;have js':(Txt.join Str.empty zs).length=zs.length:=js;exact⟨by omega,by omega,λc hc=>nv (jl c hc)⟩
theorem uR {r:Int} (g:NmL z) (h0:0<=r) (h1:r<(z.length:Int)) (hc:c∈Lt.cps.toList):NmL ((Txt.slice z none (some r)++⟨#[c]⟩)++Txt.slice z (some (r+1)) none):=by
 obtain⟨j,rfl⟩:∃j:Nat,r=(j:Int):=⟨r.toNat,by omega⟩;have zl:z.length=z.cps.size:=rfl;have e1:=ff (z:=z) (j:=j) (by omega);have e2:=eT (z:=z) (a:=j+1) (by omega);rw[show (((j+1:Nat)):Int)=(j:Int)+1 by omega]at e2;have el:((Txt.slice z none (some (j:Int))++⟨#[c]⟩)++Txt.slice z (some ((j:Int)+1)) none).cps.toList=(z.cps.toList.take j++[c])++z.cps.toList.drop (j+1):=by rw[iw,iw,e1,e2]
 have ll:((Txt.slice z none (some (j:Int))++⟨#[c]⟩)++Txt.slice z (some ((j:Int)+1)) none).length=z.length:=by
  rw[lK,el,Qh,Qh,QM,XI,Qg];show min j z.cps.size+1+(z.cps.size-(j+1))=z.cps.size;omega
 refine⟨by rw[ll];exact g.pos,by rw[ll];exact g.l8,λd hd=>?_⟩;rw[el]at hd;rcases Qw.mp hd with h|h
 ·rcases Qw.mp h with h|h
  ·exact g.lw d (List.mem_of_mem_take h)
  rw[QB.mp h];exact nv hc
 exact g.lw d (List.mem_of_mem_drop h)
theorem yb:∀t,t<26->NmL (Xn t):=λt ht=>by
 have:=xD t ht;exact⟨by omega,by omega,(by decide +kernel:∀t,t<26->∀c∈(Xn t).cps.toList,97<=c/\c<=122) t ht⟩
def gu:Sp:=λvs H Q _=>∃(D:Dk) (m:Nat),vs=[.ref D.d,.int (m:Int)]/\D.At H/\D.n<50000/\1<=m/\m<=11 /\
 ∀l (nm:List Str) H',Kp (D.more 200) H H'->H l=none->nm.length=m->nm.Nodup->(∀n∈nm,NmL n)->H' l=some (.lst (nm.map V.str))->Q (.ref l) H'
variable {D:Dk}
theorem Kp.up {c':Nat} (a:Kp (D.more c) H H1) (l:c<=c'):Kp (D.more c') H H1:=a.le (Nat.add_le_add_left l _)
theorem Kp.one (a:Kp (D.more c) H H1) (b:Kp ((D.more c).more 1) H1 H2):Kp (D.more (c+1)) H H2:=(a.trans b).le (Nat.le_of_eq (Nat.add_assoc _ _ _))
theorem bn {c:Nat} {m:Int} {E:XK} (kp:Kp (D.more c) H0 H) (dn:D.n+c<100000) (h1:1<=m) (h2:m<=100000)
  (q:∀(r:Int) H',0<=r->r<m->(∀b o,H b=some o->¬D.own b->H' b=some o)->Kp (D.more (c+1)) H0 H'->Q (.int r) H'):eQ [.ref D.d,.int m] H Q E :=
 ⟨D.more c,m,rfl,kp.dk,dn,h1,h2,λr H' r0 r1 k=>q r H' r0 r1 k.old (kp.one k)⟩
theorem nP {r:Int} (h0:0<=r) (h1:r<26):∃c∈Lt.cps.toList,atI Lt.cps.toList r=some c:=by
 have z26:((Lt.cps.size:Nat):Int)=26:=by decide +kernel
 obtain⟨c,e,hc⟩:=vj (t:=Lt) (r:=r) h0 (by rw[z26];exact h1);exact⟨c,hc,e⟩
def NJp (D:Dk) (m:Nat) (l:Addr) (stem:Str) (H:Hp) (i:Nat) (ns:List Str) (c:Nat):St->Hp->Prop:=λU H'=>∃(way:Int) (nm:Str) (x8 x9:Option V),U=[some (.ref D.d),some (.int (m:Int)),some (.str Lt),some (.str stem),some (.ref l),some (.int (0+i)),some (.str nm),some (.int way),x8,x9]/\NmL nm/\H' l=some (.lst (ns.map V.str))/\Kp (D.more c) H H'
local macro_rules|`(tactic|ctx_has $a $b $c $d $e $f $g)=>`(tactic|(generalize hE:upd $a $b _=$c;obtain⟨$d,$e⟩:=$f $g hE;clear hE))
section
theorem jC:FnScope ["pool", "many", "letters", "stem", "found", "k", "name", "way", "at", "turn"] ["pool", "many"] (av (top 33)):=by fin2
theorem qq {f:Addr} {fd:FuncData} (Fu:Fun K "_law_names" "_law_names" (top 33) f fd) (T:Txt K mg TT) (f_law_take:Fn P w K mg base "_law_take" ["pool", "many"] 1 eQ):FnOk P w K mg base CX0 2 f fd ["pool", "many"] gu:=by
 have S:=jC;refine Fu.ok S (by room) (λcdv A outer s H vs Q E hr h=>?_);obtain⟨D,m,rfl,DA,dn,m1,m11,k⟩:=h;refine'⟨?_,?bb,?_⟩
 case bb =>
  walk_at "b";exact aL 2 S.nd ba;exact aL 3 S.nd (aj aR (pe_lst (aa ba (aa ba (aa ba (aa ba ac aQ) aQ) aQ) aQ)) (aJ f_law_take hr (aa (pv 0) (aa ae ac aQ) ad)));exact aL 4 S.nd (pe_lst ac);walk_at "f";exact(d_ (by rfl) T.n_range (aa (pv 1) ac ad));exact(bz 5 S.nd);walk_at "p";exact aL 6 S.nd (aM bM (cq eV (pv 3) cP (cO (aJ f_law_take hr (aa (pv 0) (aa ae ac aQ) ad)))) (aj cX (pv 2) (aJ f_law_take hr (aa (pv 0) (aa ae ac aQ) ad))));exact aL 7 S.nd (aJ f_law_take hr (aa (pv 0) (aa ae ac aQ) ad));exact(aG cJ (pv 7) ae (aF _));exact aL 6 S.nd (bR PySem.F.plainAttrs_str PySem.F.slot_str_join PySem.F.type_str_join uS ba (aa (c7 "turn" [("letters", 2),("pool", 0)] (d_ (by rfl) T.n_range (aa (aM cA ae (aJ f_law_take hr (aa (pv 0) (aa ae ac aQ) ad))) ac)) (λ_ _ _ _=>(aj cX (pv 1) (aJ f_law_take hr (aa (pv 2) (aa ae ac aQ) ad))))) ac));exact(PW.pt (rT (aG cJ (pv 7) ae (aF _)) (oJ (aG (gU hr.units) (pv 4) (pe_lst ac) (aF _)))));exact aL 8 S.nd (aJ f_law_take hr (aa (pv 0) (aa (am dM (by rfl) T.n_len QJ (aa (aj aR (pv 4) (r_ mF ae)) ac)) ac aP) ad));exact aL 6 S.nd (aM bM (aM bM (cq eV (aj aR (pv 4) (r_ mF ae)) cP (cO (pv 8))) (aj cX (pv 2) (aJ f_law_take hr (aa (pv 0) (aa ae ac aQ) ad)))) (cq eV (aj aR (pv 4) (r_ mF ae)) (cO (aM cA (pv 8) ae)) cP));exact aL 9 S.nd ae;refine' gJ PassesOwn.never ?_ ?_;rotate_left 2;exact(aG fJ (pv 6) (pv 4) rfl);walk_at "p";exact aL 6 S.nd (aM mW (aj cX (pv 2) (pv 9)) ae);exact aL 9 S.nd (aM cA (pv 9) ae);exact(cj (bR QE Q3 Q4 br (pv 4) (aa (pv 6) ac ad)));exact(aD (pv 4))
 x_go;lk;refine⟨by decide +kernel,λp hp=>?_⟩;ctx_has H p H1 S1 q1 ag hp;have q1':H1 p=some (.lst ((["abcdefg", "placeof", "zyxwvut", "kjqrshn"]:List Str).map V.str)):=q1;have kp1:Kp (D.more 0) H H1:=Kp.of DA S1;lk;refine bn kp1 (by omega) (by decide) (by decide) λr H2 r0 r1 o2 kp2=>?_;have np:¬D.own p:=aB DA hp;have q2:=o2 _ _ q1' np;obtain⟨stem,hst,est⟩:=vh (ws:=["abcdefg", "placeof", "zyxwvut", "kjqrshn"]) (r:=r) r0 r1;have hstl:stem.length=7:=(by decide +kernel:∀z∈(["abcdefg", "placeof", "zyxwvut", "kjqrshn"]:List Str),z.length=7) stem hst;have hstw:=(by decide +kernel:∀z∈(["abcdefg", "placeof", "zyxwvut", "kjqrshn"]:List Str),∀c∈z.cps.toList,97<=c/\c<=122) stem hst;refine i_ixL (SqL.of q2) est ?_;clear q2 q1 q1' S1 kp1;lk;refine⟨by decide,λl hl=>?_⟩;have nl:¬D.own l:=aB (D:=D.more 1) kp2.dk hl;have HL:H l=none:=kp2.free hl;ctx_has H2 l H3 S3 q3 ag hl;have q3':H3 l=some (.lst (([]:List Str).map V.str)):=q3;have kp3:Kp (D.more 1) H H3:=kp2.trans (Kp.of kp2.dk S3);clear q3 S3 hl;lk;refine⟨by omega,by omega,?_⟩;rw[Xa];let I5:IvF:=λi U H'=>∃x5 x6 x7 x8 x9,∃ns:List Str,U=[some (.ref D.d),some (.int (m:Int)),some (.str Lt),some (.str stem),some (.ref l),x5,x6,x7,x8,x9]/\i<=11/\ns.length=i/\ns.Nodup/\(∀n∈ns,NmL n)/\H' l=some (.lst (ns.map V.str))/\Kp (D.more (1+14*i)) H H'
 refine fQ (n:=m) I5
  ⟨_,_,_,_,_,[],rfl,QU _,rfl,List.nodup_nil,(λn h=>nomatch h),q3',kp3⟩ (λi U H' hi pv=>?_) (λU H' pv=>?_)
 ·obtain⟨x5,x6,x7,x8,x9,ns,rfl,_,hn,nd,good,hl',kp⟩:=pv;have l1:∀c,(⟨#[c]⟩:Str).length=1:=λ_=>rfl;refine aw ?_;lk;refine bn kp (by omega) (by decide) (by decide) λr2 Ha r20 r21 oa kpa=>?_;lk;have sl:=Txt.slice_le stem none (some r2);refine ie (by omega) ?_;lk;refine bn kpa (by omega) (by decide) (by decide) λr3 Hb r30 r31 ob kpb=>?_;obtain⟨c,hc,ec⟩:=nP r30 r31;refine eL (by decide +kernel) ec ?_;refine⟨_,_,rfl,rfl,by rw[l1];omega,?_⟩;have hnm:NmL (Txt.slice stem none (some r2)++⟨#[c]⟩):=sP hstl hstw r20 r21 hc;generalize Txt.slice stem none (some r2)++⟨#[c]⟩=nm at *;have hlb:=ob _ _ (oa _ _ hl' nl) nl;clear oa ob kpa sl r20 r21;refine aw ?_;lk;refine bn kpb (by omega) (by decide) (by decide) λway Hc w0 w1 oc kpc=>?_;have hlc:=oc _ _ hlb nl;clear oc kpb hlb;refine aw ?_;with_reducible refine cH (NJp D m l stem H i ns (1+14*i+12)) (λR hR=>?_) (λσ6 H6 j6=>?_)
  ·lk;refine jS (λ_=>?_) (λ_=>hR _ _ ⟨way,nm,x8,x9,rfl,hnm,hlc,kpc.up (by omega)⟩);lk;refine⟨rfl,?_⟩;lk;refine bx ?_;lk;refine bn kpc (by omega) (by decide) (by decide) λr4 Hd r40 r41 od kpd=>?_;have hld:=od _ _ hlc nl;lk;refine⟨by omega,by omega,λL hL=>?_⟩;have nL:¬D.own L:=aB (D:=D.more _) kpd.dk hL;have HLn:H L=none:=kpd.free hL;obtain⟨n8,e8,a8,b8⟩:∃n8:Nat,(1+r4).toNat=n8/\1<=n8/\n8<=8:=⟨_,rfl,by omega,by omega⟩;rw[e8];have nlL:l≠L:=aA hld hL;let I6:IvC:=λn H' ys=>Kp (D.more (1+14*i+4+n)) H H'/\H' L=some (.lst ys)/\H' l=some (.lst (ns.map V.str))/\∃zs:List Str,ys=zs.map V.str/\zs.length=n/\∀z∈zs,∃c∈Lt.cps.toList,z=⟨#[c]⟩
   refine nM (n:=n8) I6
    ⟨(Kp.new kpd hL).up (by omega),ah,by rw[aq nlL];exact hld,[],rfl,rfl,λz h=>nomatch h⟩ (λn H' ys pv=>pv.2.1) (λn H' ys hn8 pv=>?_) (λH' ys pv=>?_)
   ·obtain⟨kpx,hLx,hlx,zs,rfl,hz,hzs⟩:=pv;refine aw ⟨⟨rfl,rfl,trivial⟩,i_yes (b9 ?_)⟩;show tOp _ _ _ [some (.int (0+n)),some (.str Lt),some (.ref D.d)] _ _;lk;refine bn kpx (by omega) (by decide) (by decide) λr5 Hy r50 r51 oy kpy=>?_;obtain⟨c5,hc5,ec5⟩:=nP r50 r51;refine eL (by decide +kernel) ec5 ?_;refine dQ.mk (oy _ _ hLx nL) hn8 (by rw[Qc];omega) ⟨Kp.fresh (DA.le (QP _ _)) HLn (kpy.up (by omega)),ah,by rw[aq nlL];exact oy _ _ hlx nl,zs++[⟨#[c5]⟩],by simp,by simp[hz],λz hz'=>?_⟩;rcases Qw.mp hz' with h|h
    ·exact hzs z h
    rw[QB]at h;exact⟨c5,hc5,h⟩
   obtain⟨kpx,hLx,hlx,zs,rfl,hz,hzs⟩:=pv;obtain⟨_,_,f3⟩:=dG zs hzs;obtain⟨js,_⟩:=je hzs;have e0:("" : Str)=Str.empty:=by decide +kernel
   have e00:("" : Str).length=0:=by decide +kernel
   refine bf ⟨"", L,zs,rfl,rfl,SqL.of hLx,by rw[f3,e00];omega,?_⟩;rw[e0];have js':(Txt.join Str.empty zs).length=zs.length:=js;exact aw (hR _ _ ⟨way,_,x8,x9,rfl,sQ hzs (by omega) (by omega),hlx,kpx.up (by omega)⟩)
  clear hnm hlc kpc;with_reducible refine cH (NJp D m l stem H i ns (1+14*i+14)) (λR hR=>?_) (λσ7 H7 j7=>?_)
  ·obtain⟨way,nm,x8,x9,rfl,hnm,hl6,kp6⟩:=j6;have out:∀H',ak H6 H'->R [some (.ref D.d),some (.int (m:Int)),some (.str Lt),some (.str stem),some (.ref l),some (.int (0+i)),some (.str nm),some (.int way),x8,x9] H':=λH' kq=>hR _ _ ⟨way,nm,x8,x9,rfl,hnm,kq _ _ hl6,(kp6.trans (Kp.of kp6.dk kq)).up (by omega)⟩;lk;refine jS (λ_=>?_) (λ_=>?_)
   ·lk;refine⟨by decide,λp hp=>?_⟩;have S7:=aC (o:=.lst []) hp;have hl7:=S7 _ _ hl6;refine⟨l,p,_,[],λ_=>true,rfl,rfl,SqL.of hl7,SqL.of ah,(λj x y _ h=>by simp at h),⟨_,rfl,?_⟩⟩;refine jS (λhne=>?_) (λ_=>out _ S7);have nne:ns≠[]:=λz=>by subst z;simp at hne
    obtain⟨la,hla,ela⟩:=vi nne;have gla:=good la hla;have gp:=gla.pos;have gl:=gla.l8;have kp8:Kp (D.more (1+14*i+12)) H (upd H6 p (.lst [])):=kp6.trans (Kp.of kp6.dk S7);generalize upd H6 p (.lst [])=H8 at *;lk;refine i_ixL (SqL.of hl7) ela ?_;lk;refine⟨_,rfl,by omega,?_⟩;lk;refine bn kp8 (by omega) (by omega) (by omega) λat1 H9 t0 t1 o9 kp9=>?_;have hl9:=o9 _ _ hl7 nl;lk;refine i_ixL (SqL.of hl9) ela ?_;lk;refine ie (by omega) ?_;lk;refine bn kp9 (by omega) (by decide) (by decide) λr6 Hk r60 r61 ok kpk=>?_;obtain⟨c6,hc6,ec6⟩:=nP r60 r61;have hlk:=ok _ _ hl9 nl;refine eL (by decide +kernel) ec6 ?_;have sl1:=Txt.slice_le la none (some at1);have sl2:=Txt.slice_le la (some (at1+1)) none;refine⟨_,_,rfl,rfl,by rw[l1];omega,?_⟩;lk;refine i_ixL (SqL.of hlk) ela ?_;lk;refine ie (by omega) ?_;refine⟨_,_,rfl,rfl,by rw[lap,l1];omega,?_⟩;exact aw (hR _ _ ⟨way,_,_,x9,rfl,uR gla t0 t1 hc6,hlk,kpk.up (by omega)⟩)
   first|exact out _ (ak.refl _)|exact iteF (out _ (ak.refl _))
  obtain⟨way,nm,x8,x9,e,hnm,hl6,kp6⟩:=j7;subst e;with_reducible refine s_seq (s_asg (i_c (aw ?_)))
  let I7:IvJ:=λU H'=>∃(t:Int) (nm:Str),U=[some (.ref D.d),some (.int (m:Int)),some (.str Lt),some (.str stem),some (.ref l),some (.int (0+i)),some (.str nm),some (.int way),x8,some (.int t)]/\NmL nm/\nm∉ns/\H'=H7;with_reducible refine cH I7 (λR hR=>?_) (λσ9 H9 j9=>?_)
  ·let I8:IvF:=λn U H'=>∃(t:Nat) (nm:Str),n=26-t/\t<=11/\U=[some (.ref D.d),some (.int (m:Int)),some (.str Lt),some (.str stem),some (.ref l),some (.int (0+i)),some (.str nm),some (.int way),x8,some (.int t)]/\NmL nm/\H'=H7/\(∀j,j+1<t->Xn j∈ns)/\(1<=t->nm=Xn (t-1));refine⟨I8,⟨26,0,nm,rfl,by omega,rfl,hnm,rfl,(λj h=>by omega),(λh=>by omega)⟩,?_⟩;rintro n U H' ⟨t,nm,rfl,t11,rfl,hnm,rfl,q1,q2⟩;have z26:((Lt.cps.size:Nat):Int)=26:=by decide +kernel
   lk;refine yL (SqL.of hl6) rfl (fR ns) ?_;refine⟨_,rfl,?_⟩;refine jS (λhin=>?_) (λhin=>?_)
   ·have hmem:=gk.mp hin
    have hall:∀j,j<t->Xn j∈ns:=λj hj=>by
     by_cases z:j+1<t
     ·exact q1 j z
     have:j=t-1:=by omega
     rw[this,<-q2 (by omega)];exact hmem
    have ht:=yu (by omega) hall;refine⟨_,λσ' H' w=>⟨26-(t+1),by omega,w⟩,?_⟩;lk
    have et:atI Lt.cps.toList ((t:Nat):Int)=some (Lt.cps.getD t 0):=by
     refine cw ?_;have:t<Lt.cps.size:=by omega
     simp[Array.getD,this]
    refine eL (by decide +kernel) et ?_;lk;refine⟨_,_,rfl,rfl,yd _,?_⟩;lk;refine⟨t+1,Xn t,rfl,by omega,rfl,?_,rfl,(λj hj=>hall j (by omega)),(λ_=>rfl)⟩;exact yb t (by omega)
   exact hR _ _ ⟨t,nm,rfl,hnm,λz=>hin (gk.mpr z),rfl⟩
  obtain⟨t,nm,e,hnm,hnot,e9⟩:=j9;subst e e9;lk;refine d0 hl6 (by rw[Qc];omega) ?_;refine⟨_,_,_,_,_,ns++[nm],rfl,by omega,by simp[hn],?_,λn hn'=>?_,by rw[ah];simp,Kp.fresh (DA.le (QP _ _)) HL (kp6.up (by omega))⟩
  ·rw[List.nodup_append]
   exact⟨nd,by simp,λa ha b hb e=>hnot (by
    have hb':b=nm:=by simpa using hb
    rw[<-hb',<-e];exact ha)⟩
  rcases Qw.mp hn' with h|h
  ·have g:=good n h;exact g
  have:n=nm:=by simpa using h
  rw[this];exact hnm
 obtain⟨x5,x6,x7,x8,x9,ns,rfl,_,hn,nd,good,hl',kp⟩:=pv;refine s_ret (te:=fA 4) (D:={ nx:=λx H'=>Q V.non H',rt:=Q }) (aY rfl ?_);exact k l ns H' (kp.up (by omega)) HL hn nd good hl'
end
def oi (K:PySem.W.Frag):Sp:=λvs H Q _=>∃(D:Dk) (a:Addr) (xs:List V),vs=[.ref D.d,.ref a]/\D.At H/\SqL K H a xs/\D.n<50000/\xs.length<=100 /\
 ∀l (ys:List V) H',Kp (D.more 100) H H'->H l=none->ys.Perm xs->H' l=some (.lst ys)->Q (.ref l) H'
theorem pick_perm:∀{ls:List V} {k:Nat} {y:V},ls[k]?=some y->(y::ls.eraseIdx k).Perm ls
 | [],_,_,h=>by simp at h
 | x::r,0,y,h=>by simp at h;subst h;exact .refl _
 | x::r,k+1,y,h=>by
  have:=pick_perm (ls:=r) (k:=k) (y:=y) (by simpa using h);rw[List.eraseIdx_cons_succ];exact(List.Perm.swap _ _ _).trans (this.cons _)
section
theorem jB:FnScope ["pool", "things", "left", "found"] ["pool", "things"] (av (top 34)):=by fin2
theorem sI {f:Addr} {fd:FuncData} (Fu:Fun K "_law_order" "_law_order" (top 34) f fd) (T:Txt K mg TT) (f_law_take:Fn P w K mg base "_law_take" ["pool", "many"] 1 eQ):FnOk P w K mg base CX0 2 f fd ["pool", "things"] (oi K):=by
 have S:=jB;refine Fu.ok S (by room) (λcdv A outer s H vs Q E hr h=>?_);obtain⟨D,a,xs,rfl,DA,hx,dn,x100,k⟩:=h;refine'⟨?_,?bb,?_⟩
 case bb =>
  walk_at "b";exact aL 2 S.nd (bq dL (by rfl) T.n_list PyProof.Rows.boot_list (aa (pv 1) ac ad));exact aL 3 S.nd (pe_lst ac);refine' gJ PassesOwn.never ?_ ?_;rotate_left 2;exact(aG (gU hr.units) (pv 2) (pe_lst ac) (aF _));walk_at "p";exact(cj (bR QE Q3 Q4 br (pv 3) (aa (bR QE PySem.F.slot_list_pop PySem.F.type_list_pop sS (pv 2) (aa (aJ f_law_take hr (aa (pv 0) (aa (am ay (by rfl) T.n_len QJ (aa (pv 2) ac ad)) ac aP) ad)) ac aP)) ac aP)));exact(aD (pv 3))
 x_go;lk;refine⟨_,_,rfl,.inl hx,λl hl=>?_⟩;have nl:¬D.own l:=aB DA hl;ctx_has H l H1 S1 q1 ag hl;have kp1:Kp (D.more 0) H H1:=Kp.of DA S1;lk;refine⟨by decide,λp hp=>?_⟩;have np:¬D.own p:=aB (D:=D.more _) kp1.dk hp;have nlp:l≠p:=aA q1 hp;have HP:H p=none:=kp1.free hp;ctx_has H1 p H2 S2 q2 ag hp;have kp2:Kp (D.more 0) H H2:=kp1.trans (Kp.of kp1.dk S2);have q1':=S2 _ _ q1;clear kp1 S1 S2 hp q1;lk;let I9:IvF:=λn U H'=>∃(ls fs:List V),n=ls.length/\fs.length+ls.length=xs.length/\U=[some (.ref D.d),some (.ref a),some (.ref l),some (.ref p)]/\(fs++ls).Perm xs/\H' l=some (.lst ls)/\H' p=some (.lst fs)/\Kp (D.more fs.length) H H';refine⟨I9,⟨_,xs,[],rfl,by simp,rfl,.refl _,q1',q2,kp2⟩,?_⟩;rintro n U H' ⟨ls,fs,rfl,hlen,rfl,pm,hl',hp',kp⟩;lk;refine⟨by decide,λe he=>?_⟩;have Se:=aC (o:=.lst []) he;have hle:=Se _ _ hl';have hpe:=Se _ _ hp';have kpe:Kp (D.more fs.length) H (upd H' e (.lst [])):=kp.trans (Kp.of kp.dk Se);refine⟨l,e,_,[],λ_=>true,rfl,rfl,SqL.of hle,SqL.of ah,(λj x y _ h=>by simp at h),⟨_,rfl,?_⟩⟩;generalize upd H' e (.lst [])=H3 at *;refine jS (λhne=>?_) (λhno=>?_)
 ·have nne:ls≠[]:=λz=>by subst z;simp at hne
  have lpos:0<ls.length:=List.length_pos_iff.mpr nne;refine⟨_,λσ' H' w=>⟨ls.length-1,by omega,w⟩,?_⟩;lk;refine bn kpe (by omega) (by omega) (by omega) λr H4 r0 r1 o4 kp4=>?_;have hl4:=o4 _ _ hle nl;have hp4:=o4 _ _ hpe np;have hj:r.toNat<ls.length:=by omega
  have ez:ls[r.toNat]?=some ls[r.toNat]:=Qd hj;refine bf ?_;refine⟨l,ls,r,r.toNat,_,rfl,rfl,hl4,by omega,by omega,?_,ez,?_⟩
  ·have:ixN ls.length r=some r.toNat:=by unfold ixN;rw[Qs r0,Qs r1]
   exact(jR this).1
  refine bf ?_;have pz:=pick_perm ez;generalize ls[r.toNat]=z at *;have lz:(ls.eraseIdx r.toNat).length+1=ls.length:=by rw[List.length_eraseIdx];rw[Qs hj];omega
  refine d0 (xs:=fs) (by rw[aq nlp.symm];exact hp4) (by omega) ?_;refine⟨ls.eraseIdx r.toNat,fs++[z],by omega,by rw[Qh];show fs.length+1+_=_;omega,rfl,?_,by rw[aq nlp,ah],ah,?_⟩
  ·rw[List.append_assoc];exact(List.Perm.append_left fs pz).trans pm
  have:=Kp.fresh (o:=.lst (fs++[z])) (DA.le (QP _ _)) HP (Kp.fresh (o:=.lst (ls.eraseIdx r.toNat)) (DA.le (QP _ _)) hl kp4);rw[Qh];exact this
 have e0:ls=[]:=by
  cases ls with
  | nil=>rfl
  | cons x r=>exact absurd (by simp) hno
 subst e0;lk;exact k p fs H3 (kpe.up (by simp at hlen;omega)) HP (by simpa using pm) hpe
end
theorem TuA.inj (h1:TuA H v x) (h2:TuA H v y):x=y:=by
 obtain⟨b,e,q⟩:=h1;subst e;obtain⟨b',e,q'⟩:=h2;cases e;rw[q]at q';have:=HO.tup.inj (QH q');simp only[List.cons.injEq,V.str.injEq]at this;exact Prod.ext this.1 this.2.1
open Classical in
theorem nG {K:PySem.W.Frag} {t:Tu} (h1:TuA H u x) (h2:TuA H v t):EqD K H (n+2) u v (decide (TuA H u t)):=by
 have e:decide (TuA H u t)=decide (tk2 x=tk2 t):=decide_eq_decide.mpr ⟨λh=>by rw[h1.inj h],λh=>by rw[<-gg h];exact h1⟩;rw[e];obtain⟨a,e,_⟩:=id h1;subst e;obtain⟨b,e,_⟩:=id h2;subst e;exact tN h1.tk h2.tk rfl
open Classical in
theorem cS {K:PySem.W.Frag} {t:Tu} (h:H l=some (.lst vs)) (p:Paired (TuA H) vs ts) (hu:TuA H u t) (m:t∈ts) (q:Q (.int (ts.idxOf t:Nat)) H):oG K (.ref l) [u] H Q:=by
 have hi:=QO m;have et:ts[ts.idxOf t]?=some t:=by rw[Qd hi];exact congrArg some (List.getElem_idxOf hi)
 obtain⟨z,ez,hz⟩:=bo p et;refine⟨l,vs,u,λv=>decide (TuA H v t),ts.idxOf t,z,rfl,rfl,SqL.of h,λv hv=>?_,ez,QA hz,λj v hj ev=>?_,q⟩
 ·obtain⟨i,hi,rfl⟩:=QX hv;obtain⟨x,_,hx⟩:=paired_get p (Qd hi);exact nG hx hu
 obtain⟨x,ex,hx⟩:=paired_get p ev;refine Qy λz=>?_;cases hx.inj z;have h1:=List.not_of_lt_findIdx (xs:=ts) (p:=(·==t)) (i:=j) hj;obtain⟨h2,e2⟩:=Qf.mp ex;rw[e2]at h1;simp at h1
abbrev Pr:=Tu × Tu
def PrA (H:Hp) (v:V) (p:Pr):Prop:=∃b v1 v2,v=.ref b/\H b=some (.tup [v1,v2])/\TuA H v1 p.1/\TuA H v2 p.2
theorem PrA.kt {p:Pr} (k:aX H H') (h:PrA H v p):PrA H' v p:=let ⟨b,v1,v2,e,q,h1,h2⟩:=h;⟨b,v1,v2,e,k _ _ q,h1.kt k,h2.kt k⟩
open Classical in
theorem xl {K:PySem.W.Frag} {p:Pr} {t:Tu} (hp:PrA H v p) (hu:TuA H u t) (q:Q (.bl (decide (p.1=t) || decide (p.2=t))) H):wI K false u v H Q:=by
 obtain⟨b,v1,v2,rfl,hb,h1,h2⟩:=hp;refine⟨b,_,λv=>decide (TuA H v t),rfl,.inr (SqT.of hb),λv hv=>?_,?_⟩
 ·rcases Qk.mp hv with rfl|hv
  ·exact nG h1 hu
  cases QB.mp hv;exact nG h2 hu
 have e1:decide (TuA H v1 t)=decide (p.1=t):=decide_eq_decide.mpr ⟨λh=>h1.inj h,λh=>h▸h1⟩;have e2:decide (TuA H v2 t)=decide (p.2=t):=decide_eq_decide.mpr ⟨λh=>h2.inj h,λh=>h▸h2⟩;rw[List.any_cons,List.any_cons,List.any_nil,Bool.or_false,e1,e2];exact q
def ku (t:Tu):List Key:=[.inr t.1,.inr t.2]
def tkR (p:Pr):ax:=[.inr (ku p.1),.inr (ku p.2)]
theorem sY (h:ku x=ku y):x=y:=by
 unfold ku at h;simp only[List.cons.injEq,Sum.inr.injEq]at h;exact Prod.ext h.1 h.2.1
theorem gf {x y:Pr} (h:tkR x=tkR y):x=y:=by
 unfold tkR at h;simp only[List.cons.injEq,Sum.inr.injEq]at h;exact Prod.ext (sY h.1) (sY h.2.1)
theorem PrA.tk {p:Pr} (h:PrA H (.ref b) p):bH H (tkR p) b:=by
 obtain⟨_,v1,v2,e,q,⟨c,e1,h1⟩,d,e2,h2⟩:=h;cases e;subst e1 e2;exact⟨_,q,.cons ⟨c,rfl,h1⟩ (.cons ⟨d,rfl,h2⟩ .nil)⟩
theorem PrA.of {p:Pr} (h:bH H (tkR p) b):PrA H (.ref b) p:=by
 obtain⟨vs,q,pr⟩:=h
 cases pr with
 | cons r1 pr=>cases pr with
  | cons r2 pr =>
   cases pr;obtain⟨c,e1,h1⟩:=r1;obtain⟨d,e2,h2⟩:=r2;subst e1 e2;exact⟨b,_,_,rfl,q,⟨c,rfl,h1⟩,d,rfl,h2⟩
structure PrOk (ws:List Str) (p:Pr):Prop where
 o:bt ws p.1
 t:bt ws p.2
 ne:p.1≠p.2
structure MkD (H:Hp) (a:Addr) (ws:List Str) (kvs:List (ax × V)) (n:Nat):Prop where
 h:H a=some (.dT kvs)
 l:kvs.length<=n
 ok:∀kv∈kvs,∃p:Pr,kv.1=tkR p/\PrOk ws p/\∃m:Int,kv.2=.int m/\(m=0\/m=1)
 nd:(kvs.map (·.1)).Nodup
theorem sU {k:ax} {kv:ax × V} (h:kv∈bI kvs k v):kv∈kvs\/kv=(k,v):=by
 unfold bI at h
 split at h
 ·obtain⟨x,hx,e⟩:=Qm.mp h;by_cases c:x.1=k
  ·rw[Qs c]at e;exact .inr (by rw[<-e,c])
  rw[Qq c]at e;exact .inl (e▸hx)
 rcases Qw.mp h with h|h
 ·exact .inl h
 exact .inr (QB.mp h)
theorem du (kvs:List (ax × V)) (k:ax) (v:V):(k∈kvs.map (·.1)/\(bI kvs k v).map (·.1)=kvs.map (·.1))\/(k∉kvs.map (·.1)/\(bI kvs k v).map (·.1)=kvs.map (·.1)++[k]):=by
 cases e:bC kvs k with
 | none=>exact .inr ⟨kG e,by rw[rV v e,QI];rfl⟩
 | some u =>
 refine .inl ⟨ud e,?_⟩;unfold bI;rw[cG,e];rw[Qs (show (some u).isSome=true from rfl),Xm];refine XW λx _=>?_;show (if x.1=k then (x.1,v) else x).1=x.1
 split <;> rfl
theorem MkD.put {H':Hp} {ws:List Str} {n:Nat} {p:Pr} {m:Int} (d:MkD H a ws kvs n) (ok:PrOk ws p) (hm:m=0\/m=1) (e:H' a=some (.dT (bI kvs (tkR p) (.int m)))):MkD H' a ws (bI kvs (tkR p) (.int m)) (n+1):=by
 refine⟨e,QK (bX _ _ _) (Nat.succ_le_succ d.l),λkv h=>?_,?_⟩
 ·rcases sU h with h|rfl
  ·exact d.ok kv h
  exact⟨p,rfl,ok,m,rfl,hm⟩
 rcases du kvs (tkR p) (.int m) with⟨_,e⟩|⟨c,e⟩
 ·rw[e];exact d.nd
 rw[e];exact oW d.nd c
theorem MkD.set {ws:List Str} {p:Pr} {m:Int} (d:MkD H a ws kvs n) (hp:tkR p∈kvs.map (·.1)) (ok:PrOk ws p) (hm:m=0\/m=1) (e:H' a=some (.dT (bI kvs (tkR p) (.int m)))):MkD H' a ws (bI kvs (tkR p) (.int m)) n:=by
 have q:=d.put ok hm e;refine⟨q.h,?_,q.ok,q.nd⟩;rcases du kvs (tkR p) (.int m) with⟨_,e⟩|⟨c,_⟩
 ·have:=congrArg List.length e;rw[Qc,Qc]at this;rw[this];exact d.l
 exact absurd hp c
theorem MkD.same {H':Hp} {ws:List Str} (d:MkD H a ws kvs n) (e:∀o,H a=some o->H' a=some o):MkD H' a ws kvs n:=⟨e _ d.h,d.l,d.ok,d.nd⟩
theorem MkD.val {ws:List Str} {p:Pr} (d:MkD H a ws kvs n) (h:tkR p∈kvs.map (·.1)):PrOk ws p/\∃m:Int,bC kvs (tkR p)=some (.int m)/\(m=0\/m=1):=by
 cases e:bC kvs (tkR p) with
 | none=>exact absurd h (kG e)
 | some v =>
 unfold bC at e;obtain⟨kv,hf,rfl⟩:=XD.mp e;have h1:=List.find?_some hf;obtain⟨p',e1,ok,m,e2,hm⟩:=d.ok kv (List.mem_of_find?_eq_some hf);have h1:kv.1=tkR p:=XQ h1;cases gf (e1.symm.trans h1);exact⟨ok,m,by rw[e2],hm⟩
theorem cmK {K:PySem.W.Frag} {g:TG} {te:TE} {tt:L2.TT} {QD:Hp->Prop} {xs:List α} {I:V->α->Prop} (R:Hp->V->α->Prop) (DA:D.At H1) (hL:H1 L=none) (e:H1 a=some (.lst vs)) (na:¬D.own a) (pa:Paired I vs xs) (few:xs.length<=100000) (mono:∀H H' v x,aX H H'->R H v x->R H' v x)
  (hs:∀i v x H,i<xs.length->I v x->x∈xs->Kp (D.more i) H1 H->∀(G:V->Hp->Prop) (N:Hp->Prop),(∀u H2,Kp (D.more (i+1)) H H2->R H2 u x->G u H2)->(∀H2,Kp (D.more (i+1)) H H2->N H2)->g v σ0 H λσ2 H2=>wk σ0 σ2/\tt σ2 H2 λb H3=>if b=true then te σ2 H3 G else N H3)
  (hd:∀H ys zs,Kp (D.more xs.length) H1 H->H L=some (.lst ys)->zs.Sublist xs->Paired (R H) ys zs->QD H) :
  ∃W:Nat->Nat->Hp->List V->Prop,(∃m,W 0 m (upd H1 L (.lst [])) [])/\∀i m H ys,W i m H ys->H L=some (.lst ys)/\(((Itl K a).stop i H/\QD H)\/((Itl K a).go i H/\∀x H',(Itl K a).yld i H x H'->g x σ0 H' λσ2 H2=>wk σ0 σ2/\tt σ2 H2 λb H3 =>
   if b=true then te σ2 H3 λv H4=>H4 L=some (.lst ys)/\ys.length<sizeLine/\∃m',m'<m/\W (i+1) m' (upd H4 L (.lst (ys++[v]))) (ys++[v]) else ∃m',m'<m/\W (i+1) m' H3 ys)):=by
 have l:=ar pa;have nL:¬D.own L:=aB DA hL;refine⟨λi m H ys=>m=xs.length-i/\i<=xs.length/\Kp (D.more i) H1 H/\H L=some (.lst ys)/\∃zs,zs.Sublist (xs.take i)/\Paired (R H) ys zs,⟨_,rfl,QU _,Kp.of DA (aC hL),ah,[],List.nil_sublist _,.nil⟩,?_⟩;rintro i m H ys ⟨rfl,hi,kp,hy,zs,sb,p⟩;refine⟨hy,?_⟩;have ea:=kp.old _ _ e na;by_cases hl:i<xs.length
 ·refine .inr ⟨⟨vs,vs[i]'(by omega),SqL.of ea,Qd _⟩,λv H' y=>?_⟩;obtain⟨e',y⟩:=y;subst e';have ex:xs[i]?=some xs[i]:=Qd hl;have hm:xs.length-(i+1)<xs.length-i:=by omega
  obtain⟨v',ev,r⟩:=bo pa ex;cases ev.symm.trans (y vs (SqL.of ea));have st:xs.take i++[xs[i]]=xs.take (i+1):=by rw[List.take_succ,ex];rfl
  refine hs i v xs[i] _ hl r (Ql ex) kp _ _ (λu H2 k2 ru=>?_) (λH2 k2=>?_)
  ·have yl:ys.length<=xs.length:=by
    rw[ar p];refine QK sb.length_le ?_;rw[QM];omega
   have hy2:=k2.old _ _ hy nL;have kt:=bO (o:=.lst (ys++[u])) hy2;have kt2:=Kp.tups (kp.dk.le (Nat.add_le_add_left (XX _) _)) k2;refine⟨hy2,X3 yl (X3 few (by decide)),_,hm,rfl,hl,Kp.fresh (DA.le (QP _ _)) hL (kp.trans k2),ah,zs++[xs[i]],?_,?_⟩
   ·rw[<-st];exact sb.append (List.Sublist.refl _)
   exact aV (af (λv x r=>mono _ _ v x kt (mono _ _ v x kt2 r)) p) (mono _ _ u _ kt ru)
  have kt2:=Kp.tups (kp.dk.le (Nat.add_le_add_left (XX _) _)) k2;exact⟨_,hm,rfl,hl,kp.trans k2,k2.old _ _ hy nL,zs,by rw[<-st];exact sb.trans (List.sublist_append_left _ _),af (λv x r=>mono _ _ v x kt2 r) p⟩
 obtain rfl:i=xs.length:=by omega
 rw[Xc (Qj _)]at sb;exact .inl ⟨⟨vs,SqL.of ea,by omega⟩,hd H ys zs kp hy sb p⟩
theorem kc {xs:List V} {i:Int} (h0:-(xs.length:Int)<=i) (h1:i<xs.length):∃v,atI xs i=some v/\v∈xs:=by
 unfold atI ixN;by_cases c:0<=i
 ·rw[Qs c,Qs h1];exact⟨xs[i.toNat]'(by omega),Qd _,Xi _⟩
 rw[Qq c,Qs h0];exact⟨xs[(i+xs.length).toNat]'(by omega),Qd _,Xi _⟩
theorem eh {F:α->β->Prop} {xs:List α} {ys:List β} (p:Paired F xs ys) {x:α} (h:x∈xs):∃y∈ys,F x y:=by
 obtain⟨i,hi,rfl⟩:=QX h;obtain⟨y,e,r⟩:=paired_get p (Qd hi);exact⟨y,Ql e,r⟩
theorem rj (p:Paired (TuA H) vs ts):∀x∈vs,∃a,x=V.ref a:=λx hx=>by
 obtain⟨_,_,b,e,_⟩:=eh p hx;exact⟨b,e⟩
theorem c_:∀(ns:List Str),Paired (λv n=>v=V.str n) (ns.map V.str) ns
 | []=>.nil
 | _::ns=>.cons rfl (c_ ns)
theorem uz {t u:L2.TT} {R:Bool->Hp->Prop} (J:Hp->Prop) (hT:∀H',J H'->R true H') (hF:∀H',J H'->R false H') (h:∀(R':Bool->Hp->Prop),(∀b H',J H'->R' b H')->tOr t u U H R'):tOr t u U H R:=h R λb H' j=>by
 cases b
 ·exact hF H' j
 exact hT H' j
theorem dI {D:Addr} {o:HO} (h:H D=some (.dT kvs)):aX H (upd H D o):=λb ys e=>by
 rw[aq (λz=>by rw[z,h]at e;cases e)];exact e
theorem bit (b:Bool):(if b=true then (1:Int) else 0)=0\/(if b=true then (1:Int) else 0)=1:=by cases b <;> simp
structure AI (D:Dk) (H H':Hp) (Lm Lq:Addr) (ws:List Str) (c n:Nat) (pv:List V) (ps:List Pr):Prop where
 kp:Kp (D.more c) H H'
 m:H' Lm=some (.dT [])
 q:H' Lq=some (.lst pv)
 pp:Paired (PrA H') pv ps
 ok:∀p∈ps,bt ws p.1/\bt ws p.2
 l:ps.length<=n
section
variable {D:Dk} {H H' H2:Hp} {Lm Lq:Addr} {ws:List Str} {c n:Nat} {pv:List V} {ps:List Pr}
theorem Kp.kt {k:Nat} (kp:Kp (D.more k) H H') (old:∀b o,H' b=some o->¬D.own b->H2 b=some o):aX H' H2:=λb xs e=>old b _ e (jI (D:=D.more k) kp.dk e (λ_ z=>nomatch z))
theorem AI.draw {c':Nat} (i:AI D H H' Lm Lq ws c n pv ps) (DA:D.At H) (hm:H Lm=none) (hq:H Lq=none) (old:∀b o,H' b=some o->¬D.own b->H2 b=some o) (k:Kp (D.more c') H H2):AI D H H2 Lm Lq ws c' n pv ps :=
 ⟨k,old _ _ i.m (aB DA hm),old _ _ i.q (aB DA hq),af (λ_ _ h=>h.kt (i.kp.kt old)) i.pp,i.ok,i.l⟩
theorem AI.same (i:AI D H H' Lm Lq ws c n pv ps) (S:ak H' H2):AI D H H2 Lm Lq ws c n pv ps :=
 ⟨i.kp.trans (Kp.of i.kp.dk S),S _ _ i.m,S _ _ i.q,af (λ_ _ h=>h.kt (ak.tups S)) i.pp,i.ok,i.l⟩
theorem AI.add {v:V} {p:Pr} (i:AI D H H' Lm Lq ws c n pv ps) (DA:D.At H) (hq:H Lq=none) (pa:PrA H' v p) (ok:bt ws p.1/\bt ws p.2):AI D H (upd H' Lq (.lst (pv++[v]))) Lm Lq ws c (n+1) (pv++[v]) (ps++[p]):=by
 have kt:aX H' (upd H' Lq (.lst (pv++[v]))):=bO i.q;refine⟨Kp.fresh (DA.le (QP _ _)) hq i.kp,by rw[aq (λz=>by have:=i.m;rw[z,i.q]at this;cases this)];exact i.m,ah,aV (af (λ_ _ h=>h.kt kt) i.pp) (pa.kt kt),λp' hp'=>?_,by rw[Qh];exact Nat.succ_le_succ i.l⟩;rcases Qw.mp hp' with h|h
 ·exact i.ok p' h
 rw[QB.mp h];exact ok
end
def rM:Sp:=λvs H Q _=>∃(D:Dk) (o nl:Addr) (ov:List V) (ots:List Tu) (ws:List Str),vs=[.ref D.d,.ref o,.ref nl]/\D.At H/\D.n<50000/\H o=some (.lst ov)/\Paired (TuA H) ov ots/\H nl=some (.lst (ws.map V.str))/\(∀t,t∈ots↔bt ws t)/\1<=ots.length/\ots.length<=10/\ws.length<=5 /\
 ∀a kvs H',Kp (D.more 70) H H'->H a=none->MkD H' a ws kvs 52->Q (.ref a) H'
section
theorem k6:FnScope ["pool", "order", "names", "marks", "pairs", "turn", "at", "one", "other"] ["pool", "order", "names"] (av (top 35)):=by fin2
theorem uL {f:Addr} {fd:FuncData} (Fu:Fun K "_law_arcs" "_law_arcs" (top 35) f fd) (T:Txt K mg TT) (f_law_take:Fn P w K mg base "_law_take" ["pool", "many"] 1 eQ):FnOk P w K mg base CX0 2 f fd ["pool", "order", "names"] rM:=by
 have S:=k6;refine Fu.ok S (by room) (λcdv A outer s H vs Q E hr h=>?_);obtain⟨D,o,nl,ov,ots,ws,rfl,DA,dn,ho,po,hnl,all,o1,o10,w5,k⟩:=h;have hu:=cY hr;refine'⟨?_,?bb,?_⟩
 case bb =>
  walk_at "b";exact aL 3 S.nd si;exact(lg (j:=4) S.nd rfl (by z_go) (tgs:=["name"]) (cap:=[("pool", 0)]) rfl ⟨rfl,rfl,rfl,rfl,rfl,rfl⟩ (aZ (pv 2)) (λ_ _ _ _=>(bi (i:=0) (show List.Nodup [("name" : Str),("pool" : Str)] by decide +kernel) rfl (by z_go))) (λ_ _ _ _=>(fh (aG lA (aJ f_law_take hr (aa (pv 1) (aa ae ac aQ) ad)) ae (aF _)))) (λ_ _ _ _=>(be (aa (be (aa (pv 0) (aa ba ac aQ) ad)) (aa (be (aa (pv 0) (aa ba ac aQ) ad)) ac se_tup) se_tup))));walk_at "f";exact(d_ (by rfl) T.n_range (aa (aJ f_law_take hr (aa (pv 0) (aa (aj aR (pe_lst (aa ae (aa ae ac aQ) aQ)) (aJ f_law_take hr (aa (pv 0) (aa ae ac aQ) ad))) ac) ad)) ac aP));exact(bz 5 S.nd);walk_at "p";refine' cj (bR QE Q3 Q4 br (pv 4) ?a)
  case a =>
   walk_at "q";exact(aj aR (pv 1) (aJ f_law_take hr (aa (pv 0) (aa (am ay (by rfl) T.n_len QJ (aa (pv 1) ac ad)) ac aP) ad)));exact(aj aR (pv 1) (aJ f_law_take hr (aa (pv 0) (aa (am ay (by rfl) T.n_len QJ (aa (pv 1) ac ad)) ac aP) ad)))
  walk_at "f";exact(oN (by rfl) T.n_enumerate (aa (pv 1) ac ad));exact(dX rfl (aH (bz 6 S.nd) (aH (bz 5 S.nd) bT)));walk_at "p";exact(aG (sC hr.units) (gO (tgs:=["pair"]) (cap:=[("turn", 5)]) rfl ⟨rfl,rfl,rfl,rfl,rfl,rfl⟩ (aZ (pv 4)) (λ_ _ _ _=>(bi (i:=0) (show List.Nodup [("pair" : Str),("turn" : Str)] by decide +kernel) rfl (by z_go))) (λ_ _ _ _=>(fh (aG (uB (K:=K) rfl hr.units) (pv 1) (pv 0) rfl))) (λ_ _ _ _=>ae)) (pe_lst ac) (aF _));refine' cj (bR QE Q3 Q4 br (pv 4) ?a)
  case a =>
   walk_at "q";exact(aj aR (pv 1) (aM gT (pv 6) ae));exact(pv 5)
  walk_at "f";exact(aZ (pv 4));exact(dX rfl (aH (bz 7 S.nd) (aH (bz 8 S.nd) bT)));walk_at "p";exact(aG (jG hr.units) (pv 7) (pv 8) (aF _));exact(fg hu (pv 3) (be (aa (pv 7) (aa (pv 8) ac ad) ad)) (bq cD (by rfl) T.n_int XA (aa (bj lA (bR QE Xv Xw (cR hr.units) (pv 1) (aa (pv 7) ac ad)) (bR QE Xv Xw (cR hr.units) (pv 1) (aa (pv 8) ac ad)) (aF _)) ac)) rfl);exact(PW.pt (dW (aG lA (aJ f_law_take hr (aa (pv 0) (aa ae ac aQ) ad)) ae (aF _)) (dC (aG cJ (aj au (pv 7) ae) (aj au (pv 8) ae) (aF _)))));exact(fg hu (pv 3) (be (aa (pv 8) (aa (pv 7) ac ad) ad)) (aM gT ae (bU hu (pv 3) (be (aa (pv 7) (aa (pv 8) ac ad) ad)))) rfl);exact(aD (pv 3))
 x_go;have no_:¬D.own o:=jI DA ho (λxs e=>by cases e;exact m5 (rj po));have nn_:¬D.own nl:=jI DA hnl (λxs e=>by cases e;exact mZ ws);lk;refine λLm hLm=>?_;generalize hE:upd H Lm _=H1;obtain⟨S1,q1⟩:=ag hLm hE;have DA1:=DA.same S1;refine aw ?_;lk;refine bx (s_list (aY rfl ⟨nl,rfl,⟨_,SqL.of (S1 _ _ hnl)⟩,λLq hLq1=>?_⟩));have hLq:=bN S1 hLq1;refine cmK (I:=λv n=>v=V.str n) (xs:=ws) (λH v nm=>PrA H v ((nm, "+"),(nm, "-"))) DA1 hLq1 (S1 _ _ hnl) nn_ (c_ ws) (by omega) (λH H' v x k h=>h.kt k) (λi v x H' hi ev mx kp G N hG hN=>?_) (λH' ys zs kp hy sb pz=>?_)
 ·subst ev;refine aw ⟨⟨rfl,trivial⟩,?_⟩;lk;refine bn kp (by omega) (by omega) (by omega) λr H2 r0 r1 o2 kp2=>?_;lk;have k2:Kp (D.more (i+1)) H' H2:=⟨o2,kp2.dk⟩;cases decide (0<r)
  ·exact iteF (hN H2 k2)
  refine b9 ?_;lk;refine⟨by simp[sizeLine],λp1 h1=>?_⟩;generalize hE:upd H2 p1 _=H3;obtain⟨S3,q3⟩:=ag h1 hE;lk;refine⟨by simp[sizeLine],λp2 h2=>?_⟩;generalize hE:upd H3 p2 _=H4;obtain⟨S4,q4⟩:=ag h2 hE;lk;refine⟨by simp[sizeLine],λp3 h3=>?_⟩;generalize hE:upd H4 p3 _=H5;obtain⟨S5,q5⟩:=ag h3 hE;exact hG _ H5 (k2.trans (Kp.of k2.dk ((S3.trans S4).trans S5))) ⟨p3,_,_,rfl,q5,⟨p1,rfl,S5 _ _ (S4 _ _ q3)⟩,p2,rfl,S5 _ _ q4⟩
 have ai:AI D H H' Lm Lq ws 5 5 ys (zs.map λnm=>((nm, "+"),(nm, "-"))):=by
  have kpH:Kp (D.more ws.length) H H':=(Kp.of (D:=D.more ws.length) (DA.le (QP _ _)) S1).trans kp;refine⟨kpH.up w5,kp.old _ _ q1 (aB (D:=D) DA hLm),hy,bw (f:=λnm:Str=>(((nm, "+"),(nm, "-")):Pr)) pz,λp hp=>?_,by rw[Qc];exact QK sb.length_le w5⟩;obtain⟨nm,hn,rfl⟩:=Qm.mp hp;have:=sb.subset hn;exact⟨⟨this,.inl rfl⟩,this,.inr rfl⟩
 generalize (zs.map λnm=>(((nm, "+"),(nm, "-")):Pr))=ps at ai;clear pz sb zs kp hy;lk;have ordA:∀{H':Hp} {k:Nat},Kp (D.more k) H H'->H' o=some (.lst ov)/\Paired (TuA H') ov ots:=λ{H' k} kp=>⟨kp.old _ _ ho no_,af (λ_ _ h=>h.kt (Kp.tups (D:=D.more k) (DA.le (QP _ _)) kp)) po⟩;have pol:=ar po
 have pick:∀{H':Hp} {k:Nat} {r:Int},Kp (D.more k) H H'->-(ov.length:Int)<=r->r<ov.length->∃v t,atI ov r=some v/\TuA H' v t/\bt ws t:=λ{H' k r} kp h0 h1=>by
  obtain⟨v,e,hv⟩:=kc h0 h1;obtain⟨t,ht,tu⟩:=eh (ordA kp).2 hv;exact⟨v,t,e,tu,(all t).mp ht⟩
 refine⟨by decide,λp0 hp0=>?_⟩;generalize hE:upd H' p0 _=H2;obtain⟨S2,q2⟩:=ag hp0 hE;have np0:¬D.own p0:=aB (D:=D.more _) ai.kp.dk hp0;have ai2:=ai.same S2;lk;refine bn ai2.kp (by omega) (by omega) (by omega) λr H3 r0 r1 o3 kp3=>?_;have ai3:=ai2.draw DA hLm hLq o3 kp3
 have at3:∃m:Int,atI [V.int 3,V.int 12] r=some (.int m)/\1<=m/\m<=12:=by
  have:r=0\/r=1:=by omega
  rcases this with rfl|rfl
  ·exact⟨3,rfl,by decide,by decide⟩
  exact⟨12,rfl,by decide,by decide⟩
 obtain⟨m,em,m1,m12⟩:=at3;refine i_ixL (SqL.of (o3 _ _ q2 np0)) em ?_;lk;refine bn ai3.kp (by omega) (by omega) (by omega) λr H4 r0 r1 o4 kp4=>?_;have ai4:=ai3.draw DA hLm hLq o4 kp4;clear ai ai2 ai3 o3 o4 kp3 kp4 S2 q2 hE;refine bf ⟨r,rfl,by omega,by omega,?_⟩;let I10:IvF:=λi U H'=>∃pv ps y,U=[some (.ref D.d),some (.ref o),some (.ref nl),some (.ref Lm),some (.ref Lq),y,none,none,none]/\AI D H H' Lm Lq ws (7+2*i) (5+i) pv ps;refine fQ I10 ⟨_,_,_,rfl,ai4⟩ (λi U H' hi h=>?_) (λU H' h=>?_)
 ·obtain⟨pv,ps,y,rfl,ai⟩:=h;have hq:=ai.q;have hoo:=(ordA ai.kp).1;refine aw ?_;lk;refine bn ai.kp (by omega) (by omega) (by omega) λr H2 r0 r1 o2 kp2=>?_;have ai2:=ai.draw DA hLm hLq o2 kp2;obtain⟨v1,t1,e1,tu1,ok1⟩:=pick kp2 (r:=r) (by omega) r1;refine i_ixL (SqL.of (ordA kp2).1) e1 ?_;have hoo:=(ordA ai2.kp).1;lk;refine bn ai2.kp (by omega) (by omega) (by omega) λr H3 r0 r1 o3 kp3=>?_;have ai3:=ai2.draw DA hLm hLq o3 kp3;obtain⟨v2,t2,e2,tu2,ok2⟩:=pick kp3 (r:=r) (by omega) r1;refine i_ixL (SqL.of (ordA kp3).1) e2 ?_;lk;refine⟨by simp[sizeLine],λp4 hp4=>?_⟩;generalize hE:upd H3 p4 _=H4;obtain⟨S4,q4⟩:=ag hp4 hE;have ai4:=ai3.same S4;have:=ai4.l;refine bf (d0 ai4.q (by rw[ar ai4.pp];omega) ?_);exact⟨_,_,_,rfl,ai4.add (p:=(t1,t2)) DA hLq ⟨p4,_,_,rfl,q4,(tu1.kt (kp2.kt o3)).kt (ak.tups S4),tu2.kt (ak.tups S4)⟩ ⟨ok1,ok2⟩⟩
 obtain⟨pv,ps,y,rfl,ai⟩:=h;have ai:AI D H H' Lm Lq ws 29 16 pv ps:=⟨ai.kp.up (by omega),ai.m,ai.q,ai.pp,ai.ok,by have:=ai.l;omega⟩;have hoo:=(ordA ai.kp).1;lk;refine i_cons (aY rfl (bf ⟨o,rfl,⟨_,SqL.of hoo⟩,?_⟩));let I11:IvF:=λi U H'=>∃pv ps y5 y6,U=[some (.ref D.d),some (.ref o),some (.ref nl),some (.ref Lm),some (.ref Lq),y5,y6,none,none]/\AI D H H' Lm Lq ws 29 (16+i) pv ps;refine lT (xs:=ov) I11 ⟨_,_,_,_,rfl,ai⟩ (λi U H' _ ⟨_,_,_,_,_,ai⟩=>SqL.of (ordA ai.kp).1) (λi x U H' TA ex h hT=>?_) (λU H' h=>?_)
 ·obtain⟨pv,ps,y5,y6,rfl,ai⟩:=h;have hi:=(Qf.mp ex).1;generalize hE:upd H' TA _=H2;obtain⟨S2,q2⟩:=ag hT hE;have ai2:=ai.same S2;obtain⟨t,et,tu⟩:=paired_get (ordA ai2.kp).2 ex;have tkt:=(all t).mp (Ql et);refine⟨TA,_,rfl,SqT.of q2,rfl,_,_,rfl,aw ⟨_,_,rfl,aw ⟨rfl,?_⟩⟩⟩;lk;refine bx (s_list (aY rfl ⟨Lq,rfl,⟨_,SqL.of ai2.q⟩,λLc hLc=>?_⟩));refine cv (λp=>decide (p.1=t) || decide (p.2=t)) (λH v p=>v=.int 1) hLc ai2.q ai2.pp (by have:=ai2.l;omega) (λH H' v x k h=>h) (λv p H3 pa mp S3 G N hG hN=>?_) (λH3 ys S3 hy pz=>?_)
  ·refine aw ⟨⟨rfl,trivial⟩,?_⟩;lk;refine xl (pa.kt (ak.tups S3)) (tu.kt (ak.tups S3)) ⟨_,rfl,?_⟩;cases cc:(decide (p.1=t) || decide (p.2=t))
   ·exact iteF (hN cc H3 (ak.refl _))
   exact b9 (hG cc _ H3 (ak.refl _) rfl)
  refine oE hy λH4 S4=>?_;have ai4:=ai2.same (S3.trans S4);cases decide (ys.length=0)
  ·exact iteF (s_next ⟨_,_,_,_,rfl,ai4.kp,ai4.m,ai4.q,ai4.pp,ai4.ok,QK ai4.l (XX _)⟩)
  refine b9 ?_;have hq4:=ai4.q;lk;obtain⟨v1,t1,e1,tu1,ok1⟩:=pick ai4.kp (r:=(i:Int)-1) (by omega) (by omega);refine i_ixL (SqL.of (ordA ai4.kp).1) e1 ?_;lk;refine⟨by simp[sizeLine],λp4 hp4=>?_⟩;generalize hE:upd H4 p4 _=H5;obtain⟨S5,q5⟩:=ag hp4 hE;have ai5:=ai4.same S5;have:=ai5.l;refine bf (d0 ai5.q (by rw[ar ai5.pp];omega) ?_);exact⟨_,_,_,_,rfl,ai5.add (p:=(t1,t)) DA hLq ⟨p4,_,_,rfl,q5,tu1.kt (ak.tups S5),tu.kt (ak.tups ((S3.trans S4).trans S5))⟩ ⟨ok1,tkt⟩⟩
 obtain⟨pv,ps,y5,y6,rfl,ai⟩:=h;have pl:=ar ai.pp;have p26:pv.length<=26:=by have:=ai.l;omega
 lk;refine⟨Lq,rfl,⟨_,SqL.of ai.q⟩,?_⟩;have nq:¬D.own Lq:=aB DA hLq;have nm:¬D.own Lm:=aB DA hLm;have aip:=ai.pp;have Hk:=ai.kp;generalize hHC:H'=HC at ai aip Hk;subst hHC;let I12:IvF:=λi U H'=>∃kvs y7 y8,U=[some (.ref D.d),some (.ref o),some (.ref nl),some (.ref Lm),some (.ref Lq),y5,y6,y7,y8]/\Kp (D.more (29+i)) H H'/\H' Lq=some (.lst pv)/\Paired (PrA H') pv ps/\MkD H' Lm ws kvs (2*i);refine dy (xs:=pv) I12 ⟨[],_,_,rfl,ai.kp,ai.q,ai.pp,ai.m,QU _,(λ_ h=>nomatch h),.nil⟩ (λi U H' _ ⟨_,_,_,_,_,h,_⟩=>SqL.of h) (λi x U H' ex h=>?_) (λU H' h=>?_)
 ·obtain⟨kvs,y7,y8,rfl,kp,hq,pp,md⟩:=h;have hi:=(Qf.mp ex).1;obtain⟨p,ep,pa⟩:=paired_get pp ex;have pok:=ai.ok p (Ql ep);obtain⟨b,v1,v2,rfl,hb,tu1,tu2⟩:=pa;refine⟨b,_,rfl,SqT.of hb,rfl,_,_,rfl,aw ⟨_,_,rfl,aw ⟨rfl,?_⟩⟩⟩;lk;refine eY tu1 tu2 ⟨_,rfl,?_⟩;by_cases ce:p.1=p.2
  ·exact ifF (by rw[QA ce];rfl) (s_next ⟨kvs,_,_,rfl,kp.up (by omega),hq,pp,md.h,QK md.l (by omega),md.ok,md.nd⟩)
  refine ifT (by rw[Qy ce];rfl) ?_;have hoo:=ordA kp;have ho1:=hoo.1;have mq:Lm≠Lq:=λz=>by have:=md.h;rw[z,hq]at this;cases this
  kt_k;refine gG ?_;lk;refine cS ho1 hoo.2 tu1 ((all _).mpr pok.1) ?_;lk;refine cS ho1 hoo.2 tu2 ((all _).mpr pok.2) ?_;lk;refine⟨by simp[sizeLine],λp3 h3=>?_⟩;have hm:=bit (decide (((ots.idxOf p.2:Nat):Int)<(ots.idxOf p.1:Nat)));generalize (if (decide (((ots.idxOf p.2:Nat):Int)<(ots.idxOf p.1:Nat)))=true then (1:Int) else 0)=m at hm ⊢;generalize hE:upd H' p3 _=H2;obtain⟨S2,q2⟩:=ag h3 hE;have pa2:PrA H2 (.ref p3) p:=⟨p3,_,_,rfl,q2,tu1.kt (ak.tups S2),tu2.kt (ak.tups S2)⟩;have hm2:=S2 _ _ md.h;have:=md.l;refine⟨Lm,_,rfl,iM.t hm2 pa2.tk (by omega),?_⟩;generalize hE3:upd H2 Lm _=H3;have q3:H3 Lm=some (.dT (bI kvs (tkR p) (.int m))):=by rw[<-hE3];exact ah
  have kt3:aX H' H3:=λb ys e=>by rw[<-hE3];exact dI hm2 _ _ (S2 _ _ e)
  have hq3:H3 Lq=some (.lst pv):=by rw[<-hE3,aq mq.symm];exact S2 _ _ hq
  have md3:=md.put (H':=H3) ⟨pok.1,pok.2,ce⟩ hm q3;have kp3:Kp (D.more (29+i)) H H3:=by rw[<-hE3];exact Kp.fresh (DA.le (QP _ _)) hLm (kp.trans (Kp.of kp.dk S2))
  kt_k;refine uz (λH4=>Kp (D.more (29+i+1)) H H4/\∀b o,H3 b=some o->¬D.own b->H4 b=some o) (λH4 j=>b9 ?_) (λH4 j=>iteF ?_) (λR' hR=>?_)
  ·obtain⟨kp4,o4⟩:=j;have kt4:aX H' H4:=λb ys e=>kp3.kt o4 _ _ (kt3 _ _ e);have md4:=md3.same (H':=H4) λo e=>o4 _ _ e nm;have tu14:=tu1.kt kt4;have tu24:=tu2.kt kt4;refine gG ?_;lk;refine⟨by simp[sizeLine],λp5 h5=>?_⟩;generalize hE:upd H4 p5 _=H5;obtain⟨S5,q5⟩:=ag h5 hE;have pa5:PrA H5 (.ref p5) p:=⟨p5,_,_,rfl,q5,tu14.kt (ak.tups S5),tu24.kt (ak.tups S5)⟩;have hm5:=S5 _ _ md4.h;refine⟨Lm,_,rfl,by have z:=dj.t hm5 pa5.tk;rw[fb,Qs rfl]at z;exact z,?_⟩;lk;refine⟨by simp[sizeLine],λp6 h6=>?_⟩;generalize hE:upd H5 p6 _=H6;obtain⟨S6,q6⟩:=ag h6 hE;have S56:=S5.trans S6;have pa6:PrA H6 (.ref p6) (p.2,p.1):=⟨p6,_,_,rfl,q6,tu24.kt (ak.tups S56),tu14.kt (ak.tups S56)⟩;have hm6:=S6 _ _ hm5;refine⟨Lm,_,rfl,iM.t hm6 pa6.tk (by have:=bX kvs (tkR p) (.int m);omega),?_⟩;have md6:=md4.put (H':=upd H6 Lm (.dT (bI (bI kvs (tkR p) (.int m)) (tkR (p.2,p.1)) (.int (1-m))))) (p:=(p.2,p.1)) (m:=1-m) ⟨pok.2,pok.1,λz=>ce z.symm⟩ (by omega) ah;refine⟨_,_,_,rfl,Kp.fresh (DA.le (QP _ _)) hLm (kp4.trans (Kp.of kp4.dk S56)),by rw[aq mq.symm];exact S56 _ _ (o4 _ _ hq3 nq),af (λ_ _ h=>h.kt λb ys e=>dI hm6 _ _ (S56 _ _ (kt4 _ _ e))) pp,md6⟩
  ·obtain⟨kp4,o4⟩:=j;have kt4:aX H' H4:=λb ys e=>kp3.kt o4 _ _ (kt3 _ _ e);have md4:=md3.same (H':=H4) λo e=>o4 _ _ e nm;exact s_next ⟨_,_,_,rfl,kp4,o4 _ _ hq3 nq,af (λ_ _ h=>h.kt kt4) pp,md4.h,QK md4.l (by omega),md4.ok,md4.nd⟩
  obtain⟨a1,rfl,ha1⟩:=tu1.kt kt3;obtain⟨a2,rfl,ha2⟩:=tu2.kt kt3;lk;refine bn kp3 (by omega) (by omega) (by omega) λr H4 r0 r1 o4 kp4=>?_;have kt4:=kp3.kt o4;have ha14:=kt4 _ _ ha1;have ha24:=kt4 _ _ ha2;lk;cases decide (0<r)
  ·refine iteF ?_;lk;exact hR _ _ ⟨kp4,o4⟩
  exact b9 (hR _ _ ⟨kp4,o4⟩)
 obtain⟨kvs,y7,y8,rfl,kp,hq,pp,md⟩:=h;exact s_ret (aY rfl (k Lm kvs H' (kp.up (by omega)) hLm ⟨md.h,QK md.l (by omega),md.ok,md.nd⟩))
end
def ua (r:Rg):Prop:=∀t,bt r.ws t->∃a∈r.arcs,a.two=t
structure RgX (r:Rg):Prop where
 low:∀n∈r.ws,NmL n
 i4:r.ins.length<=4
 o1:1<=r.outs.length
 few:r.arcs.length<64
 nd:(r.arcs.map λa=>((a.one,a.two):Tu × Tu)).Nodup
def rF:Sp:=λvs H Q _=>∃(D:Dk),vs=[.ref D.d]/\D.At H/\D.n<40000 /\
 ∀a li lo l as (r:Rg) H',Kp (D.more 1000) H H'->(∀b∈[a,li,lo,l],H b=none)->RgA H' a li lo l as r->RgOk r->ua r->RgX r->Q (.ref a) H'
theorem uh (st:StOk n z) (hc:c=48\/c=49):StOk (n+1) (z++⟨#[c]⟩):=by
 have e:(z++(⟨#[c]⟩:Str)).cps=z.cps++#[c]:=rfl;refine⟨by rw[e,Array.size_append,st.len];rfl,λd hd=>?_⟩;rw[e,Array.toList_append]at hd;rcases Qw.mp hd with h|h
 ·exact st.signs d h
 have:d=c:=by simpa using h
 rw[this];exact hc
theorem gR {α β:Type} {F:α->β->Prop}:∀{xs us:List α} {ys ws:List β},Paired F xs ys->Paired F us ws->Paired F (xs++us) (ys++ws)
 | _,_,_,_,.nil,h=>h
 | _,_,_,_,.cons r t,h=>.cons r (gR t h)
theorem iT {o:HO} (S:ak (upd H a o) H'):ak H (back H a H'):=λb u e=>by
 by_cases c:b=a
 ·rw[c,fT,<-c];exact e
 rw[bW c];exact S b u (by rw[aq c];exact e)
section
variable {α:Type} {K:PySem.W.Frag} {H1:Hp} {D:Addr} {σ0:St} {g:TG} {te:TE} {tt:L2.TT} {QD:Hp->Prop}
theorem vf {a:Addr} {o:Obj} {kvs:List (ax × V)} (c:ax × V->Bool) (R:Hp->V->ax × V->Prop) (hD:H1 D=none) (e:H1 a=some (.frz o (.dT kvs))) (few:kvs.length<=100000) (mono:∀H H' v x,aX H H'->R H v x->R H' v x)
  (hs:∀kv b H,kv∈kvs->bH H kv.1 b->ak H1 H->∀(G:V->Hp->Prop) (N:Hp->Prop),(c kv=true->∀u H2,ak H H2->R H2 u kv->G u H2)->(c kv=false->∀H2,ak H H2->N H2)->g (.ref b) σ0 H λσ2 H2=>wk σ0 σ2/\tt σ2 H2 λb H3=>if b=true then te σ2 H3 G else N H3)
  (hd:∀H ys,ak H1 H->H D=some (.lst ys)->Paired (R H) ys (kvs.filter c)->QD H) :
  ∃W:Nat->Nat->Hp->List V->Prop,(∃m,W 0 m (upd H1 D (.lst [])) [])/\∀i m H ys,W i m H ys->H D=some (.lst ys)/\(((t_ a o kvs).stop i H/\QD H)\/((t_ a o kvs).go i H/\∀x H',(t_ a o kvs).yld i H x H'->g x σ0 H' λσ2 H2=>wk σ0 σ2/\tt σ2 H2 λb H3 =>
   if b=true then te σ2 H3 λv H4=>H4 D=some (.lst ys)/\ys.length<sizeLine/\∃m',m'<m/\W (i+1) m' (upd H4 D (.lst (ys++[v]))) (ys++[v]) else ∃m',m'<m/\W (i+1) m' H3 ys)):=by
 refine cm kvs c R hD few mono (λi H S hi=>⟨S _ _ e,hi⟩) (λH S=>⟨S _ _ e,Qj _⟩) (λi x H v H' ex S y=>?_) hd;obtain⟨e',k,u,b,hk,ev,tb⟩:=y;subst e' ev;rw[ex]at hk;cases hk;exact hs _ b _ (Ql ex) tb S
end
theorem w6 {bs:A3} (h:KsA H bs ks) (hk:∀k∈ks,∃p,k=tkR p):∃ps:List Pr,ks=ps.map tkR/\Paired (PrA H) (bs.map V.ref) ps:=by
 induction h with
 | nil=>exact⟨[],rfl,.nil⟩
 | @cons b k _ _ r _ ih =>
 obtain⟨ts,e,p⟩:=ih λk hk'=>hk k (Qu _ hk');obtain⟨t,rfl⟩:=hk k (by simp);exact⟨t::ts,by rw[e];rfl,.cons (PrA.of r) p⟩
theorem MkD.keys {ws:List Str} (d:MkD H a ws kvs n):∀k∈kvs.map (·.1),∃p,k=tkR p:=λk hk=>by
 obtain⟨kv,h,rfl⟩:=Qm.mp hk;obtain⟨p,e,_⟩:=d.ok kv h;exact⟨p,e⟩
theorem MkD.shp {ws:List Str} (d:MkD H a ws kvs n):rb false (kvs.map (·.1)):=by
 refine⟨λx hx y hy=>?_,λx hx=>?_⟩
 ·obtain⟨p,rfl⟩:=d.keys x hx;obtain⟨q,rfl⟩:=d.keys y hy;rfl
 obtain⟨p,rfl⟩:=d.keys x hx;exact⟨_,_,rfl⟩
theorem MkD.sort {K:PySem.W.Frag} {ws:List Str} (d:MkD H a ws kvs n) (hn:n<64) (q:∀p vs (ps:List Pr),H p=none->Paired (PrA H) vs ps->(ps.map tkR).Perm (kvs.map (·.1))->(ps.map tkR).Pairwise leF->Q (.ref p) (upd H p (.lst vs))):mS K [.ref a] H Q:=by
 refine⟨a,_,false,rfl,.inr ⟨kvs,.inl d.h,rfl⟩,d.shp,by rw[Qc];exact X3 d.l hn,λp bs ks hp ka pm so=>?_⟩;obtain⟨ps,rfl,pp⟩:=w6 ka λk hk=>d.keys k (pm.mem_iff.mp hk);exact q p _ ps hp pp pm so
structure RI (D:Dk) (H H':Hp) (nl tl ol Lm:Addr) (ws:List Str) (tv:List V) (tts:List Tu) (ov:List V) (ots:List Tu) (kvs:List (ax × V)) (n c:Nat):Prop where
 kp:Kp (D.more c) H H'
 nl:H' nl=some (.lst (ws.map V.str))
 tl:H' tl=some (.lst tv)
 tp:Paired (TuA H') tv tts
 ol:H' ol=some (.lst ov)
 op:Paired (TuA H') ov ots
 md:MkD H' Lm ws kvs n
section
variable {D:Dk} {H H' H2:Hp} {nl tl ol Lm:Addr} {ws:List Str} {tv ov:List V} {tts ots:List Tu} {kvs:List (ax × V)} {n c:Nat}
theorem RI.draw {c':Nat} (i:RI D H H' nl tl ol Lm ws tv tts ov ots kvs n c) (no:∀b∈[nl,tl,ol,Lm],¬D.own b) (old:∀b o,H' b=some o->¬D.own b->H2 b=some o) (k:Kp (D.more c') H H2):RI D H H2 nl tl ol Lm ws tv tts ov ots kvs n c' :=
 have kt:=i.kp.kt old
 ⟨k,old _ _ i.nl (no _ (by simp)),old _ _ i.tl (no _ (by simp)),af (λ_ _ h=>h.kt kt) i.tp,old _ _ i.ol (no _ (by simp)),af (λ_ _ h=>h.kt kt) i.op,i.md.same λo e=>old _ _ e (no _ (by simp))⟩
theorem RI.same (i:RI D H H' nl tl ol Lm ws tv tts ov ots kvs n c) (S:ak H' H2):RI D H H2 nl tl ol Lm ws tv tts ov ots kvs n c :=
 ⟨i.kp.trans (Kp.of i.kp.dk S),S _ _ i.nl,S _ _ i.tl,af (λ_ _ h=>h.kt (ak.tups S)) i.tp,S _ _ i.ol,af (λ_ _ h=>h.kt (ak.tups S)) i.op,i.md.same λo e=>S _ _ e⟩
theorem RI.up {n' c':Nat} (i:RI D H H' nl tl ol Lm ws tv tts ov ots kvs n c) (hn:n<=n') (hc:c<=c'):RI D H H' nl tl ol Lm ws tv tts ov ots kvs n' c' :=
 ⟨i.kp.up hc,i.nl,i.tl,i.tp,i.ol,i.op,i.md.h,QK i.md.l hn,i.md.ok,i.md.nd⟩
theorem RI.set {kvs':List (ax × V)} {n':Nat} (i:RI D H H' nl tl ol Lm ws tv tts ov ots kvs n c) (DA:D.At H) (hm:H Lm=none) (d:MkD (upd H' Lm (.dT kvs')) Lm ws kvs' n'):RI D H (upd H' Lm (.dT kvs')) nl tl ol Lm ws tv tts ov ots kvs' n' c:=by
 have kt:aX H' (upd H' Lm (.dT kvs')):=dI i.md.h;have ne:∀{b xs},H' b=some (.lst xs)->b≠Lm:=λe z=>by have:=i.md.h;rw[<-z,e]at this;cases this
 exact⟨Kp.fresh (DA.le (QP _ _)) hm i.kp,by rw[aq (ne i.nl)];exact i.nl,by rw[aq (ne i.tl)];exact i.tl,af (λ_ _ h=>h.kt kt) i.tp,by rw[aq (ne i.ol)];exact i.ol,af (λ_ _ h=>h.kt kt) i.op,d⟩
end
def m_ (kvs:List (ax × V)) (p:Pr):Int:=match bC kvs (tkR p) with
 | some (.int m)=>m
 | _=>0
def gS (z:Str):Str:=if z = "+" then "-" else "+"
theorem su {ws:List Str} {t:Tu} (h:bt ws t):bt ws (t.1,gS t.2)/\((t.1,gS t.2):Tu)≠t:=by
 unfold gS;rcases h.2 with e|e
 ·rw[Qs e];exact⟨⟨h.1,.inr rfl⟩,λz=>by have z:("-" : Str)=t.2:=congrArg Prod.snd z;rw[e]at z;exact absurd z (by decide +kernel)⟩
 rw[Qq (by rw[e];decide +kernel)];exact⟨⟨h.1,.inl rfl⟩,λz=>by have z:("+" : Str)=t.2:=congrArg Prod.snd z;rw[e]at z;exact absurd z (by decide +kernel)⟩
theorem sw (h:z = "+" \/ z = "-"):∃c,atI ("+-" : Str).cps.toList (if decide (V.str z=V.str "+")=true then 1 else 0)=some c/\(⟨#[c]⟩:Str)=gS z:=by
 rcases h with rfl|rfl
 ·exact⟨45,by decide +kernel,by decide +kernel⟩
 exact⟨43,by decide +kernel,by decide +kernel⟩
theorem yO (x:Int):∃c,atI ("01" : Str).cps.toList (x % 2)=some c/\(c=48\/c=49):=by
 have:x % 2=0\/x % 2=1:=by omega
 rcases this with e|e
 ·rw[e];exact⟨48,by decide +kernel,.inl rfl⟩
 rw[e];exact⟨49,by decide +kernel,.inr rfl⟩
theorem lE {ws:List Str} {p:Pr} (d:MkD H a ws kvs n) (h:tkR p∈kvs.map (·.1)):PrOk ws p/\bC kvs (tkR p)=some (.int (m_ kvs p))/\(m_ kvs p=0\/m_ kvs p=1):=by
 obtain⟨ok,m,e,hm⟩:=d.val h;have:m_ kvs p=m:=by unfold m_;rw[e]
 rw[this];exact⟨ok,e,hm⟩
def jt (kvs:List (ax × V)) (p:Pr):Arc:=⟨p.1,p.2,m_ kvs p⟩
def cx (ws:List Str):List Tu:=(ws.map λn=>((n, "+"):Tu))++(ws.map λn=>((n, "-"):Tu))
theorem cC {ws:List Str} {t:Tu}:t∈cx ws↔bt ws t:=by
 unfold cx bt;rw[Qw,Qm,Qm]
 constructor
 ·rintro(⟨n,h,rfl⟩|⟨n,h,rfl⟩)
  ·exact⟨h,.inl rfl⟩
  exact⟨h,.inr rfl⟩
 rintro⟨h,e|e⟩
 ·exact .inl ⟨t.1,h,Prod.ext rfl e.symm⟩
 exact .inr ⟨t.1,h,Prod.ext rfl e.symm⟩
theorem u4 {K:PySem.W.Frag} {ws:List Str} (hv:U[i]?=some (some (.ref nl))) (qn:H nl=some (.lst (ws.map V.str))) (w5:ws.length<=1000)
  (q:∀tl tv H',ak H H'->H tl=none->H' tl=some (.lst tv)->Paired (TuA H') tv (cx ws)->Q (.ref tl) H') :
  tOp wJ (fW (ig K (fA i)) (dw 0) eP (rp (fV (fA 0) (fV (tC (V.str "+")) pW))) (bu ["name"] [])) (fW (ig K (fA i)) (dw 0) eP (rp (fV (fA 0) (fV (tC (V.str "-")) pW))) (bu ["name"] [])) U H Q:=by
 have one:∀{z:Str} {H:Hp} {U:St} {Q:VK},U[i]?=some (some (.ref nl))->H nl=some (.lst (ws.map V.str))->(∀L y H',ak H H'->H' L=some (.lst y)->Paired (λv n=>TuA H' v (n,z)) y ws->Q (.ref L) H')->fW (ig K (fA i)) (dw 0) eP (rp (fV (fA 0) (fV (tC (V.str z)) pW))) (bu ["name"] []) U H Q:=λ{z H U Q} hv qn q=>by
  refine bx (s_list (aY hv ⟨nl,rfl,⟨_,SqL.of qn⟩,λL1 hL1=>?_⟩));refine cv (I:=λv n=>v=V.str n) (λ_=>true) (λH v (n:Str)=>TuA H v (n,z)) hL1 qn (c_ ws) (by omega) (λH H' v x k h=>h.kt k) (λv x H' ev mx S' G N hG _=>?_) (λH6 y1 S6 hy1 py1=>?_)
  ·subst ev;refine aw ⟨trivial,i_yes (b9 ?_)⟩;refine i_tup (i_cons (aY rfl (i_cons (i_c (bf ⟨by simp[sizeLine],λp1 h1=>?_⟩)))));exact hG rfl _ _ (aC h1) ⟨p1,rfl,ah⟩
  rw[bB]at py1;exact q L1 y1 H6 S6 hy1 py1
 refine i_op (one hv qn λL1 y1 H6 S6 hy1 py1=>one hv (S6 _ _ qn) λL2 y2 H7 S7 hy2 py2=>?_);have l1:=ar py1;have l2:=ar py2;have big:100000<sizeLine:=by decide
 refine eM (S7 _ _ hy1) hy2 (by omega) λtl htl=>?_;have S8:=aC (o:=.lst (y1++y2)) htl;exact q tl _ _ ((S6.trans S7).trans S8) (bN (S6.trans S7) htl) ah (gR (bw (f:=λn:Str=>((n, "+"):Tu)) (af (λ_ _ h=>h.kt (ak.tups (S7.trans S8))) py1)) (bw (f:=λn:Str=>((n, "-"):Tu)) (af (λ_ _ h=>h.kt (ak.tups S8)) py2)))
theorem ra (ws:List Str):(cx ws).length=2*ws.length:=by unfold cx;rw[Qh,Qc,Qc];omega
section
theorem kY:FnScope ["pool", "names", "turns", "order", "marks", "turn", "other", "pair", "odd", "first", "k", "name", "sign", "arcs", "at"] ["pool"] (av (top 36)):=by fin2
theorem uG {f:Addr} {fd:FuncData} (Fu:Fun K "_law_ring" "_law_ring" (top 36) f fd) (T:Txt K mg TT) (f_law_take:Fn P w K mg base "_law_take" ["pool", "many"] 1 eQ) (f_law_names:Fn P w K mg base "_law_names" ["pool", "many"] 2 gu) (f_law_order:Fn P w K mg base "_law_order" ["pool", "things"] 2 (oi K)) (f_law_arcs:Fn P w K mg base "_law_arcs" ["pool", "order", "names"] 2 rM):FnOk P w K mg base CX0 3 f fd ["pool"] rF:=by
 have S:=kY;refine Fu.ok S (by room) (λcdv A outer s H vs Q E hr h=>?_);obtain⟨D,rfl,DA,dn,k⟩:=h;have hu:=cY hr;refine'⟨?_,?bb,?_⟩
 case bb =>
  walk_at "b";exact aL 1 S.nd (aJ f_law_names hr (aa (pv 0) (aa (aM cA ae (aj aR (pe_lst (aa (aJ f_law_take hr (aa (pv 0) (aa ae ac aQ) ad)) (aa (aJ f_law_take hr (aa (pv 0) (aa ae ac aQ) ad)) ac aP) aP)) (aJ f_law_take hr (aa (pv 0) (aa ae ac aQ) ad)))) ac se_bin) ad));exact aL 2 S.nd (aM dh (c7 "name" [] (aZ (pv 1)) (λ_ _ _ _=>(be (aa (pv 0) (aa ba ac aQ) ad)))) (c7 "name" [] (aZ (pv 1)) (λ_ _ _ _=>(be (aa (pv 0) (aa ba ac aQ) ad)))));exact aL 3 S.nd (aJ f_law_order hr (aa (pv 0) (aa (pv 2) ac ad) ad));exact aL 4 S.nd (aJ f_law_arcs hr (aa (pv 0) (aa (pv 3) (aa (pv 1) ac ad) ad) ad));walk_at "f";exact(aZ (pv 2));exact(bz 5 S.nd);walk_at "p";exact(aG (sC hr.units) (wP (gO (tgs:=["pair"]) (cap:=[("turn", 5)]) rfl ⟨rfl,rfl,rfl,rfl,rfl,rfl⟩ (r8 (pv 4)) (λ_ _ _ _=>(bi (i:=0) (show List.Nodup [("pair" : Str),("turn" : Str)] by decide +kernel) rfl (by z_go))) (λ_ _ _ _=>(fh (aG (oS (K:=K) rfl hr.units) (aj (bP (K:=K) rfl) (pv 0) ae) (pv 1) (aF _)))) (λ_ _ _ _=>(pv 0)))) (pe_lst ac) (aF _));exact aL 6 S.nd (aj aR (pv 2) (aJ f_law_take hr (aa (pv 0) (aa (am ay (by rfl) T.n_len QJ (aa (pv 2) ac ad)) ac aP) ad)));exact(aG (jH hr.units) (pv 6) (pv 5) (aF _));exact aL 6 S.nd (be (aa (aj au (pv 5) ae) (aa (aj cX ba (bq cD (by rfl) T.n_int XA (aa (bj cJ (aj au (pv 5) ae) ba (aF _)) ac))) ac)));exact(fg hu (pv 4) (be (aa (pv 6) (aa (pv 5) ac ad) ad)) (bq cD (by rfl) T.n_int XA (aa (bj lA (bR QE Xv Xw (cR hr.units) (pv 3) (aa (pv 6) ac ad)) (bR QE Xv Xw (cR hr.units) (pv 3) (aa (pv 5) ac ad)) (aF _)) ac)) rfl);exact(aG cJ (aJ f_law_take hr (aa (pv 0) (aa ae ac aQ) ad)) ae (aF _));exact aL 7 S.nd (aj aR (am (cZ rfl hu) (by rfl) T.n_sorted Xd (aa (pv 4) ac ad)) (aJ f_law_take hr (aa (pv 0) (aa (am qY (by rfl) T.n_len QJ (aa (pv 4) ac ad)) ac aP) ad)));exact(fg hu (pv 4) (pv 7) (aM gT ae (bU hu (pv 4) (pv 7))) rfl);exact aL 8 S.nd (aJ f_law_take hr (aa (pv 0) (aa (aM dE ae (am ay (by rfl) T.n_len QJ (aa (pv 1) ac ad))) ac) ad));exact aL 9 S.nd ba;walk_at "f";exact(oN (by rfl) T.n_enumerate (aa (pv 1) ac ad));exact(dX rfl (aH (bz 10 S.nd) (aH (bz 11 S.nd) bT)));walk_at "p";exact aL 12 S.nd (bq cD (by rfl) T.n_int XA (aa (bj oP (bR QE Xv Xw (cR hr.units) (pv 3) (aa (be (aa (pv 11) (aa ba ac aQ) ad)) ac se_tup)) (bR QE Xv Xw (cR hr.units) (pv 3) (aa (be (aa (pv 11) (aa ba ac aQ) ad)) ac se_tup)) (aF _)) ac));exact aL 9 S.nd (aM bM (pv 9) (aj cX ba (aM fI (aM cA (pv 12) (bq cD (by rfl) T.n_int XA (aa (bj cJ (pv 8) (pv 10) (aF _)) ac))) ae)));exact(lg (j:=13) S.nd rfl (by z_go) (tgs:=["pair"]) (cap:=[("marks", 4)]) rfl ⟨rfl,rfl,rfl,rfl,rfl,rfl⟩ (aZ (am (cZ rfl hu) (by rfl) T.n_sorted Xd (aa (pv 4) ac ad))) (λ_ _ _ _=>(bi (i:=0) (show List.Nodup [("pair" : Str),("marks" : Str)] by decide +kernel) rfl (by z_go))) (λ_ _ _ _=>cI) (λ_ _ _ _=>(be (aa (aj (bP (K:=K) rfl) (pv 0) ae) (aa (aj (bP (K:=K) rfl) (pv 0) ae) (aa (bU hu (pv 1) (pv 0)) ac))))));exact aL 14 S.nd (aJ f_law_take hr (aa (pv 0) (aa (am (jm rfl) (by rfl) T.n_min PyProof.Rows.boot_min (aa ae (aa (am ay (by rfl) T.n_len QJ (aa (pv 1) ac ad)) ac aP) aQ)) ac aP) ad));refine' aD ?e
  case e =>
   walk_at "q";exact(cq oz (pv 1) cP (cO (pv 14)));exact(cq oz (pv 1) (cO (pv 14)) cP);exact(pv 9);exact(pv 13)
 x_go;lk;refine bn (c:=0) (Kp.of DA (ak.refl H)) (by omega) (by omega) (by omega) λx1 H1 x10 x11 o1 kp1=>?_;lk;refine bn kp1 (by omega) (by omega) (by omega) λx2 H2 x20 x21 o2 kp2=>?_;lk;refine⟨by simp[sizeLine],λp0 hp0=>?_⟩;generalize hE:upd H2 p0 _=H3;obtain⟨S3,q3⟩:=ag hp0 hE;have np0:¬D.own p0:=aB (D:=D.more _) kp2.dk hp0;have kp3:=kp2.trans (Kp.of kp2.dk S3);lk;refine bn kp3 (by omega) (by omega) (by omega) λx3 H4 x30 x31 o4 kp4=>?_
 have ex:∃m:Int,atI [V.int x1,V.int x2] x3=some (.int m)/\0<=m/\m<=4:=by
  have:x3=0\/x3=1:=by omega
  rcases this with rfl|rfl
  ·exact⟨x1,rfl,x10,by omega⟩
  exact⟨x2,rfl,x20,by omega⟩
 obtain⟨m,em,m0,m4⟩:=ex;refine i_ixL (SqL.of (o4 _ _ q3 np0)) em ?_;lk;refine⟨D.more 3,(1+m).toNat,by rw[show (((1+m).toNat:Nat):Int)=1+m by omega];rfl,kp4.dk,by show D.n+3<50000;omega,by omega,by omega,λnl ws H5 kp5 hnl wl wnd wlow qn=>?_⟩;have kpa:Kp (D.more 203) H H5:=kp4.trans (kp5.le (Qj _));have nlH:H nl=none:=kp4.free hnl;clear hE q3 S3 o1 o2 o4 kp1 kp2 kp3 kp5;have w1:1<=ws.length:=by omega
 have w5:ws.length<=5:=by omega
 kt_k;kt_k;with_reducible refine s_asg ?_
 refine u4 rfl qn (by omega) λtl tv H8 S58 htl qtl pt=>?_;have kp8:=kpa.trans (Kp.of kpa.dk S58);have htlH:H tl=none:=kpa.free htl;have tl_:=ar pt;have atl:=ra ws;refine aw ?_;lk;refine⟨D.more 203,tl,tv,rfl,kp8.dk,SqL.of qtl,by show D.n+203<50000;omega,by omega,λol ov H9 kp9 hol pm qol=>?_⟩;obtain⟨ots,pot,pmo⟩:=Ht.paired_perm pm pt;have no8:∀b,H b=none->¬D.own b:=λb hb=>aB DA hb;have kt9:aX H8 H9:=Kp.tups (D:=(D.more 203).more 100) (kp8.dk.le (QP _ _)) kp9;have kpb:Kp (D.more 303) H H9:=kp8.trans (kp9.le (Qj _));have holH:H ol=none:=kp8.free hol;have po9:Paired (TuA H9) ov ots:=af (λ_ _ h=>h.kt kt9) pot;have all:∀t,t∈ots↔bt ws t:=λt=>pmo.mem_iff.trans cC;have otl:ots.length=2*ws.length:=by rw[pmo.length_eq,atl]
 have qn9:=kp9.old _ _ (S58 _ _ qn) (no8 _ nlH);lk;refine⟨D.more 303,ol,nl,ov,ots,ws,rfl,kpb.dk,by show D.n+303<50000;omega,qol,po9,qn9,all,by omega,by omega,w5,λLm kvs H10 kp10 hLm md=>?_⟩;have kpc:Kp (D.more 373) H H10:=kpb.trans (kp10.le (Qj _));have hLmH:H Lm=none:=kpb.free hLm;have kt10:aX H9 H10:=Kp.tups (D:=(D.more 303).more 70) (kpb.dk.le (QP _ _)) kp10
 have no:∀b∈[nl,tl,ol,Lm],¬D.own b:=λb hb=>by
  simp only[Qk,Qx,Xg]at hb;rcases hb with rfl|rfl|rfl|rfl
  ·exact no8 _ nlH
  ·exact no8 _ htlH
  ·exact no8 _ holH
  exact no8 _ hLmH
 have ri:RI D H H10 nl tl ol Lm ws tv (cx ws) ov ots kvs 52 373:=⟨kpc,kp10.old _ _ qn9 (no8 _ nlH),kp10.old _ _ (kp9.old _ _ qtl (no8 _ htlH)) (no8 _ htlH),af (λ_ _ h=>(h.kt kt9).kt kt10) pt,kp10.old _ _ qol (no8 _ holH),af (λ_ _ h=>h.kt kt10) po9,md⟩;clear kt10 kpc kp10 md po9 kt9 kpb kp9 kp8 S58 pot pm pt qtl qol qn9;lk;refine⟨tl,rfl,⟨_,SqL.of ri.tl⟩,?_⟩;let I13:IvF:=λi U H'=>∃kvs y5 y6,U=[some (.ref D.d),some (.ref nl),some (.ref tl),some (.ref ol),some (.ref Lm),y5,y6,none,none,none,none,none,none,none,none]/\RI D H H' nl tl ol Lm ws tv (cx ws) ov ots kvs (52+i) (373+i)/\∀t∈(cx ws).take i,∃p:Pr,tkR p∈kvs.map (·.1)/\p.2=t;refine dy (xs:=tv) I13 ⟨kvs,_,_,rfl,ri,λt h=>by simp at h⟩ (λi U H' _ ⟨_,_,_,_,ri,_⟩=>SqL.of ri.tl) (λi x U H' ex h=>?_) (λU H' h=>?_)
 ·obtain⟨kvs,y5,y6,rfl,ri,inc⟩:=h;obtain⟨t,et,tu⟩:=paired_get ri.tp ex;have tkt:bt ws t:=cC.mp (Ql et);have hi:=(Qf.mp ex).1;have kl:=ri.md.l
  have inc':∀kvs':List (ax × V),(∀k∈kvs.map (·.1),k∈kvs'.map (·.1))->(∃p:Pr,tkR p∈kvs'.map (·.1)/\p.2=t)->∀t∈(cx ws).take (i+1),∃p:Pr,tkR p∈kvs'.map (·.1)/\p.2=t:=λkvs' sub new t' ht'=>by
   rw[List.take_succ,et]at ht';rcases Qw.mp ht' with h|h
   ·obtain⟨p,h1,h2⟩:=inc t' h;exact⟨p,sub _ h1,h2⟩
   have:t'=t:=by simpa using h
   rw[this];exact new
  refine aw ?_;lk;refine⟨Lm,_,.inl ri.md.h,trivial,λo=>?_⟩;refine bx (aY rfl ⟨Lm,o,kvs,rfl,ah,λLc hLc=>?_⟩)
  classical
  have ktz:aX H' (upd H' Lm (.frz o (.dT kvs))):=dI ri.md.h;refine vf (λkv=>decide (∃p:Pr,kv.1=tkR p/\p.2=t)) (λH v kv=>True) hLc ah (by omega) (λ_ _ _ _ _ h=>h) (λkv b H2 mk tb S2 G N hG hN=>?_) (λH2 ys S2 hy pz=>?_)
  ·obtain⟨p,ek,pok,_⟩:=ri.md.ok kv mk;rw[ek]at tb;obtain⟨_,v1,v2,e,hb,h1,h2⟩:=PrA.of tb;cases e;refine aw ⟨⟨rfl,trivial⟩,?_⟩;lk;refine eY h2 ((tu.kt ktz).kt (ak.tups S2)) ⟨_,rfl,?_⟩;by_cases ce:p.2=t
   ·refine ifT (QA ce) ?_;lk;exact hG (QA ⟨p,ek,ce⟩) _ H2 (ak.refl _) trivial
   exact ifF (Qy ce) (hN (Qy λ⟨q,e1,e2⟩=>ce (by rw[gf (ek.symm.trans e1)];exact e2)) H2 (ak.refl _))
  have ncm:Lc≠Lm:=λz=>by rw[z,ah]at hLc;cases hLc
  refine⟨S2 _ _ ah,oE (by rw[bW ncm];exact hy) λH3 S3=>?_⟩;have ri3:=ri.same ((iT S2).trans S3);have tu3:=tu.kt (ak.tups ((iT S2).trans S3));by_cases c0:ys.length=0
  ·refine ifT (QA c0) ?_;have tl3:=ri3.tl;lk;refine bn ri3.kp (by omega) (by omega) (by omega) λr H4 r0 r1 o4 kp4=>?_;have ri4:=ri3.draw no o4 kp4;have tu4:=tu3.kt (ri3.kp.kt o4);obtain⟨v6,e6,hv6⟩:=kc (xs:=tv) (i:=r) (by omega) r1;obtain⟨t6,ht6,tu6⟩:=eh ri4.tp hv6;refine i_ixL (SqL.of ri4.tl) e6 ?_;refine aw ?_;obtain⟨ta,rfl,hta⟩:=id tu4;let I14:IvJ:=λU G=>∃vo to,U=[some (.ref D.d),some (.ref nl),some (.ref tl),some (.ref ol),some (.ref Lm),some (.ref ta),some vo,none,none,none,none,none,none,none,none]/\ak H4 G/\TuA G vo to/\bt ws to/\to≠t;with_reducible refine cH I14 (λRR hJ=>?_) (λU G h=>?_)
   ·lk;refine eY tu6 tu4 ⟨_,rfl,?_⟩;by_cases ce:t6=t
    ·refine ifT (QA ce) ?_;lk;obtain⟨c,ec,ec2⟩:=sw tkt.2;refine eL (by decide) ec ?_;rw[ec2];lk;refine⟨by simp[sizeLine],λp5 h5=>?_⟩;exact hJ _ _ ⟨_,_,rfl,aC h5,⟨p5,rfl,ah⟩,su tkt⟩
    exact ifF (Qy ce) (s_next (hJ _ _ ⟨_,_,rfl,ak.refl _,tu6,cC.mp ht6,ce⟩))
   obtain⟨vo,to,rfl,SG,tuo,tko,ne⟩:=h;have riG:=ri4.same SG;have tuG:=tu4.kt (ak.tups SG);have olG:=riG.ol;refine gG ?_;lk;refine cS olG riG.op tuo ((all _).mpr tko) ?_;lk;refine cS olG riG.op tuG ((all _).mpr tkt) ?_;lk;refine⟨by simp[sizeLine],λp3 h3=>?_⟩;have hm:=bit (decide (((ots.idxOf t:Nat):Int)<(ots.idxOf to:Nat)));generalize (if (decide (((ots.idxOf t:Nat):Int)<(ots.idxOf to:Nat)))=true then (1:Int) else 0)=m at hm ⊢;generalize hE:upd G p3 _=H5;obtain⟨S5,q5⟩:=ag h3 hE;have pa5:PrA H5 (.ref p3) (to,t):=⟨p3,_,_,rfl,q5,tuo.kt (ak.tups S5),tuG.kt (ak.tups S5)⟩;have ri5:=riG.same S5;refine⟨Lm,_,rfl,iM.t ri5.md.h pa5.tk (by omega),?_⟩;have d:=ri5.md.put (H':=upd H5 Lm (.dT (bI kvs (tkR (to,t)) (.int m)))) (p:=(to,t)) (m:=m) ⟨tko,tkt,ne⟩ hm ah;refine⟨_,_,_,rfl,ri5.set DA hLmH d,inc' _ (λk hk=>?_) ⟨(to,t),?_,rfl⟩⟩
   ·rcases du kvs (tkR (to,t)) (.int m) with⟨_,e⟩|⟨_,e⟩
    ·rw[e];exact hk
    rw[e];exact Q1 _ hk
   rcases du kvs (tkR (to,t)) (.int m) with⟨h,e⟩|⟨_,e⟩
   ·rw[e];exact h
   rw[e];exact QC _ (List.mem_singleton_self _)
  refine ifF (Qy c0) (s_next ⟨kvs,_,_,rfl,ri3.up (by omega) (by omega),inc' kvs (λ_ h=>h) ?_⟩);have pl:=ar pz
  cases hf:kvs.filter λkv=>decide (∃p:Pr,kv.1=tkR p/\p.2=t) with
  | nil=>rw[hf]at pl;exact absurd pl c0
  | cons kv r =>
  have:kv∈kvs.filter λkv=>decide (∃p:Pr,kv.1=tkR p/\p.2=t):=by rw[hf];simp
  obtain⟨m1,m2⟩:=Q2.mp this;obtain⟨p,e1,e2⟩:=XQ m2;exact⟨p,Qm.mpr ⟨kv,m1,e1⟩,e2⟩
 obtain⟨kvs,y5,y6,rfl,ri,inc⟩:=h;rw[Xc (Nat.le_of_eq tl_.symm)]at inc;have ri:=ri.up (n':=62) (c':=383) (by omega) (by omega)
 have kpos:∀kvs:List (ax × V),(∀t∈cx ws,∃p:Pr,tkR p∈kvs.map (·.1)/\p.2=t)->1<=kvs.length:=λkvs inc=>by
  cases ws with
  | nil=>simp at w1
  | cons n ws =>
  obtain⟨p,hp,_⟩:=inc (n, "+") (cC.mpr ⟨by simp,.inl rfl⟩);have:=List.length_pos_of_mem hp;rwa [Qc]at this
 let I15:IvJ:=λU G=>∃kvs y7,U=[some (.ref D.d),some (.ref nl),some (.ref tl),some (.ref ol),some (.ref Lm),y5,y6,y7,none,none,none,none,none,none,none]/\RI D H G nl tl ol Lm ws tv (cx ws) ov ots kvs 62 390/\∀t∈cx ws,∃p:Pr,tkR p∈kvs.map (·.1)/\p.2=t;with_reducible refine cH I15 (λRR hJ=>?_) (λU G h=>?_)
 ·lk;refine bn ri.kp (by omega) (by omega) (by omega) λr H2 r0 r1 o2 kp2=>?_;have ri2:=ri.draw no o2 kp2;lk;cases decide (V.int r=V.int 0)
  ·exact iteF (s_next (hJ _ _ ⟨kvs,_,rfl,ri2.up (by omega) (by omega),inc⟩))
  refine b9 ?_;lk;refine ri2.md.sort (by decide) λp vs ps hp pp pm so=>?_;generalize hE:upd H2 p _=H3;obtain⟨S3,q3⟩:=ag hp hE;have ri3:=ri2.same S3;have np:¬D.own p:=aB (D:=D.more _) ri2.kp.dk hp;have kl:=ri3.md.l;have kp1:=kpos kvs inc
  have vl:vs.length=kvs.length:=by
   have:=pm.length_eq;rw[Qc,Qc]at this;rw[ar pp,this]
  lk;refine⟨Lm,kvs,rfl,ri3.md.h,?_⟩;lk;refine bn ri3.kp (by omega) (by omega) (by omega) λr H4 r0 r1 o4 kp4=>?_;have ri4:=ri3.draw no o4 kp4;obtain⟨v7,e7,hv7⟩:=kc (xs:=vs) (i:=r) (by omega) (by omega);obtain⟨pr,hpr,pa⟩:=eh pp hv7;refine i_ixL (SqL.of (o4 _ _ q3 np)) e7 ?_;have pa4:=(pa.kt (ak.tups S3)).kt (ri3.kp.kt o4);obtain⟨b7,_,_,rfl,_⟩:=id pa4;have hk:tkR pr∈kvs.map (·.1):=pm.mem_iff.mp (Qm.mpr ⟨pr,hpr,rfl⟩);obtain⟨pok,m,ev,hm⟩:=ri4.md.val hk;refine aw ?_;with_reducible refine gG ?_
  lk;refine⟨Lm,_,rfl,by have z:=dj.t ri4.md.h pa4.tk;rw[ev]at z;exact z,?_⟩;lk;refine⟨Lm,_,rfl,iM.t ri4.md.h pa4.tk (by omega),?_⟩;have d:=ri4.md.set (H':=upd H4 Lm (.dT (bI kvs (tkR pr) (.int (1-m))))) (p:=pr) (m:=1-m) hk pok (by omega) ah;refine hJ _ _ ⟨_,_,rfl,(ri4.set DA hLmH d).up (by omega) (by omega),λt ht=>?_⟩;obtain⟨q,h1,h2⟩:=inc t ht;refine⟨q,?_,h2⟩;rcases du kvs (tkR pr) (.int (1-m)) with⟨_,e⟩|⟨_,e⟩
  ·rw[e];exact h1
  rw[e];exact Q1 _ h1
 obtain⟨kvs,y7,rfl,ri,inc⟩:=h;have nl3:=ri.nl;lk;rw[Qc];refine bn ri.kp (by omega) (by omega) (by omega) λod H2 r0 r1 o2 kp2=>?_;have ri:=ri.draw no o2 kp2;have nl3:=ri.nl;lk;refine i_cons (aY rfl (bf ⟨nl,rfl,⟨_,SqL.of nl3⟩,?_⟩));let I16:IvF:=λi U H'=>∃z y10 y11 y12,U=[some (.ref D.d),some (.ref nl),some (.ref tl),some (.ref ol),some (.ref Lm),y5,y6,y7,some (.int od),some (.str z),y10,y11,y12,none,none]/\RI D H H' nl tl ol Lm ws tv (cx ws) ov ots kvs 62 391/\StOk i z;refine lT (xs:=ws.map V.str) I16 ⟨_,_,_,_,rfl,ri,⟨rfl,λc hc=>nomatch hc⟩⟩ (λi U H' _ ⟨_,_,_,_,_,ri,_⟩=>SqL.of ri.nl) (λi x U H' TA ex h hT=>?_) (λU H' h=>?_)
 ·obtain⟨z,y10,y11,y12,rfl,ri,st⟩:=h;have hi:=(Qf.mp ex).1;rw[Qv]at ex;obtain⟨n,en,rfl⟩:=XD.mp ex;have mn:=Ql en;generalize hE:upd H' TA _=H2;obtain⟨S2,q2⟩:=ag hT hE;have ri2:=ri.same S2;have ol2:=ri2.ol;refine⟨TA,_,rfl,SqT.of q2,rfl,_,_,rfl,aw ⟨_,_,rfl,aw ⟨rfl,?_⟩⟩⟩;lk;refine⟨by simp[sizeLine],λp3 h3=>?_⟩;generalize hE:upd H2 p3 _=H3;obtain⟨S3,q3⟩:=ag h3 hE;have ri3:=ri2.same S3;have ol3:=ri3.ol;lk;refine cS (t:=(n, "-")) ol3 ri3.op ⟨p3,rfl,q3⟩ ((all _).mpr ⟨mn,.inr rfl⟩) ?_;lk;refine⟨by simp[sizeLine],λp4 h4=>?_⟩;generalize hE:upd H3 p4 _=H4;obtain⟨S4,q4⟩:=ag h4 hE;have ri4:=ri3.same S4;lk;refine cS (t:=(n, "+")) ri4.ol ri4.op ⟨p4,rfl,q4⟩ ((all _).mpr ⟨mn,.inl rfl⟩) ?_;lk;obtain⟨c,ec,hc⟩:=yO (_+_);refine eL (by decide) ec ?_;have zl:z.length=i:=st.len;rw[Qc]at hi;refine⟨z,_,rfl,rfl,by show z.length+1<=_;omega,?_⟩;exact⟨_,_,_,_,rfl,ri4,uh st hc⟩
 obtain⟨z,y10,y11,y12,rfl,ri,st⟩:=h;rw[Qc]at st;lk;refine bx (s_list (i_cb (i_cons (aY rfl (bf (ri.md.sort (by decide) λp vs ps hp pp pm so=>?_))))));generalize hE:upd H' p _=H2;obtain⟨S2,q2⟩:=ag hp hE;have ri2:=ri.same S2;refine⟨p,rfl,⟨_,SqL.of q2⟩,λLa hLa=>?_⟩
 have pl:ps.length<=62:=by
  have:=pm.length_eq;have:=ri.md.l;simp only[Qc] at *;omega
 have hk:∀x∈ps,tkR x∈kvs.map (·.1):=λx hx=>pm.mem_iff.mp (Qm.mpr ⟨x,hx,rfl⟩);refine cv (λ_=>true) (λH v x=>ArA H v (jt kvs x)) hLa q2 pp (by omega) (λH H' v x k h=>h.kt k) (λv x H3 pa mx S3 G N hG _=>?_) (λH3 ys S3 hy py=>?_)
 ·obtain⟨b,v1,v2,rfl,hb,t1,t2⟩:=pa.kt (ak.tups (S2.trans S3));have ri3:=ri2.same S3;obtain⟨pok,ev,hm⟩:=lE ri3.md (hk x mx);have pa3:PrA H3 (.ref b) x:=⟨b,v1,v2,rfl,hb,t1,t2⟩;refine aw ⟨⟨rfl,trivial⟩,i_yes (b9 ?_)⟩;lk;refine⟨Lm,_,rfl,by have z:=dj.t ri3.md.h pa3.tk;rw[ev]at z;exact z,?_⟩;lk;refine⟨by simp[sizeLine],λp4 h4=>?_⟩;have S4:=aC (o:=.tup [v1,v2,.int (m_ kvs x)]) h4;exact hG rfl _ _ S4 ⟨p4,_,_,rfl,ah,t1.kt (ak.tups S4),t2.kt (ak.tups S4)⟩
 rw[bB]at py;have py:=bw (f:=jt kvs) py;have ri3:=ri2.same S3;have hLaH:H La=none:=ri2.kp.free hLa;have nl3:=ri3.nl;lk;refine⟨5,_,rfl,?_⟩;rw[Qc];lk;refine bn ri3.kp (by omega) (by split <;> omega) (by split <;> omega) λr H4 r0 r1 o4 kp4=>?_;have ri4:=ri3.draw no o4 kp4
 have rl:r.toNat<ws.length:=by
  have:r<ws.length:=by
   split at r1 <;> omega
  omega
 obtain⟨j,rfl⟩:∃j:Nat,r=(j:Int):=⟨r.toNat,by omega⟩;rw[Xa]at rl;have nl4:=ri4.nl;have hya:=o4 _ _ hy (no8 _ hLaH);have py4:=af (λ_ _ h=>ArA.kt (ri3.kp.kt o4) h) py;lk;refine vY (SqL.of nl4) λli hli=>?_;rw[xv (by rw[Qc];omega),<-List.map_take];generalize hE:upd H4 li _=H5;obtain⟨S5,q5⟩:=ag hli hE;have nl5:=S5 _ _ nl4;lk;refine vY (SqL.of nl5) λlo hlo=>?_;rw[tU (by rw[Qc];omega),<-List.map_drop];generalize hE:upd H5 lo _=H6;obtain⟨S6,q6⟩:=ag hlo hE;lk;refine⟨by simp[sizeLine],λa h7=>?_⟩;generalize hE:upd H6 a _=H7;obtain⟨S7,q7⟩:=ag h7 hE;have S47:=(S5.trans S6).trans S7;have kp7:=kp4.trans (Kp.of kp4.dk S47);have ews:(⟨ws.take j,ws.drop j,z,ps.map (jt kvs)⟩:Rg).ws=ws:=List.take_append_drop _ _;refine k a li lo La ys ⟨ws.take j,ws.drop j,z,ps.map (jt kvs)⟩ H7 (kp7.up (by omega)) (λb hb=>?_) ⟨q7,S7 _ _ (S6 _ _ q5),S7 _ _ q6,S47 _ _ hya,af (λ_ _ h=>h.kt (ak.tups S47)) py4⟩ ⟨?_,?_,?_,?_,?_,?_⟩ ?_ ⟨?_,?_,?_,?_,?_⟩
 ·simp only[Qk,Qx,Xg]at hb;rcases hb with rfl|rfl|rfl|rfl
  ·exact kp4.free (bN (S5.trans S6) h7)
  ·exact kp4.free hli
  ·exact kp4.free (bN S5 hlo)
  exact hLaH
 ·rw[ews];exact wnd
 ·rw[ews];exact w1
 ·rw[ews];exact w5
 ·rw[ews];exact st
 ·show (ps.map _).length<=_;rw[Qc];omega
 ·rw[ews];intro x hx;obtain⟨q,hq,rfl⟩:=Qm.mp hx;obtain⟨pok,_,hm⟩:=lE ri.md (hk q hq);exact⟨pok.o,pok.t,pok.ne,hm⟩
 ·intro t ht;rw[ews]at ht;obtain⟨q,h1,h2⟩:=inc t (cC.mpr ht);obtain⟨q',hq',e⟩:=Qm.mp (pm.mem_iff.mpr h1);exact⟨jt kvs q',Qm.mpr ⟨q',hq',rfl⟩,by rw[<-gf e]at h2;exact h2⟩
 ·rw[ews];exact wlow
 ·show (ws.take j).length<=4;rw[QM];omega
 ·show 1<=(ws.drop j).length;rw[XI];omega
 ·show (ps.map _).length<64;have el:=pm.length_eq;have ml:=ri.md.l;rw[Qc,Qc]at el;rw[Qc];omega
 show ((ps.map (jt kvs)).map _).Nodup;rw[Xm];have:(ps.map tkR).Nodup:=pm.nodup_iff.mpr ri.md.nd;exact QN.mpr ((QN.mp this).imp λ{a b} h e=>h (congrArg tkR (show a=b from Prod.ext (congrArg Prod.fst e) (congrArg Prod.snd e))))
end
def my (m:List Nat) (i:Nat):List Nat:=if i∈m then m else m++[i]
theorem lR [BEq α] [LawfulBEq α] {xs ys:List α} {x:α} (h:x∈xs):(xs++ys).idxOf x=xs.idxOf x:=by
 rw[List.idxOf_append,Qs h]
theorem xC {k:Nat} (h:i<k):my (List.range k) i=List.range k:=by unfold my;rw[Qs (Xz.mpr h)]
theorem vm {k:Nat}:my (List.range k) k=List.range (k+1):=by
 unfold my;rw[Qq (by rw[Xz];omega),List.range_succ]
structure InO (r:Rg) (row:Str) (ss:List Sp1) (x x':Sx) (nd nd':Nd) (e:List Pl):Prop where
 ps:x'.ps=x.ps++e
 un:x.ps.Nodup->x'.ps.Nodup
 node:nd'=nd++ss.map λs=>(s.1.1,x'.ps.idxOf s.2)
 odd:∀s∈ss,cV r row s=none/\s.2∈x'.ps
 new:∀p∈e,∃s∈ss,s.2=p
 l40:x.ps.length<=40->x'.ps.length<=40
 met:(ss.map λs=>x'.ps.idxOf s.2).foldl my (List.range x.ps.length)=List.range x'.ps.length
theorem jU {r:Rg} {row:Str} {way:List Tu}:∀{ss:List Sp1} {x x':Sx} {nd nd':Nd},bv r row way ss x nd=.inr (x',nd')->∃e,InO r row ss x x' nd nd' e
 | [],x,x',nd,nd',h=>by
  unfold bv at h;cases h;exact⟨[],by simp,id,by simp,(λs hs=>nomatch hs),(λs hs=>nomatch hs),id,rfl⟩
 | s::ss,x,x',nd,nd',h=>by
  unfold bv at h
  cases co:cV r row s with
  | some w=>rw[co]at h;cases h
  | none =>
  rw[co]at h;dsimp only at h;by_cases c:s.2∈x.ps
  ·rw[Qs c]at h;obtain⟨e,i⟩:=jU h;have m':s.2∈x'.ps:=by rw[i.ps];exact Q1 _ c
   have ei:x'.ps.idxOf s.2=x.ps.idxOf s.2:=by rw[i.ps,lR c]
   refine⟨e,i.ps,i.un,?_,λt ht=>?_,λp hp=>?_,i.l40,?_⟩
   ·rw[i.node,List.append_assoc,Qt,ei];rfl
   ·rcases Qk.mp ht with rfl|ht
    ·exact⟨co,m'⟩
    exact i.odd t ht
   ·obtain⟨t,ht,q⟩:=i.new p hp;exact⟨t,Qu _ ht,q⟩
   rw[Qt,List.foldl_cons,ei,xC (QO c)];exact i.met
  rw[Qq c]at h;by_cases c40:x.ps.length=40
  ·rw[Qs c40]at h;cases h
  rw[Qq c40]at h;obtain⟨e,i⟩:=jU h;have ps:=i.ps;dsimp only at ps;have m0:s.2∈x.ps++[s.2]:=by simp
  have m':s.2∈x'.ps:=by rw[ps];exact Q1 _ m0
  have ei:x'.ps.idxOf s.2=x.ps.length:=by rw[ps,lR m0,List.idxOf_append,Qq c];simp
  refine⟨s.2::e,by rw[ps];simp,λn=>i.un ?_,?_,λt ht=>?_,λp hp=>?_,λl=>i.l40 ?_,?_⟩
  ·show (x.ps++[s.2]).Nodup;rw[List.nodup_append];exact⟨n,by simp,λa ha b hb z=>c (by rw[<-QB.mp hb,<-z];exact ha)⟩
  ·rw[i.node,List.append_assoc,Qt,ei];rfl
  ·rcases Qk.mp ht with rfl|ht
   ·exact⟨co,m'⟩
   exact i.odd t ht
  ·rcases Qk.mp hp with rfl|hp
   ·exact⟨s,by simp,rfl⟩
   obtain⟨t,ht,q⟩:=i.new p hp;exact⟨t,Qu _ ht,q⟩
  ·show (x.ps++[s.2]).length<=40;rw[Qh,QL];omega
  have im:=i.met;rw[Qt,List.foldl_cons,ei,vm];rw[show (x.ps++[s.2]).length=x.ps.length+1 by rw[Qh];rfl]at im;exact im
section
open PySem.Spec PyProof.Rows
theorem oZ:∀a b:List Nat,ltCps a b=false->ltCps b a=false->a=b
 | [],[],_,_=>rfl
 | [],_::_,h,_=>nomatch h
 | _::_,[],_,h=>nomatch h
 | x::a,y::b,h,g=>by
  simp only[ltCps,Bool.or_eq_false_iff,decide_eq_false_iff_not]at h g;have e:x=y:=by omega
  subst e;simp only[BEq.rfl,Bool.true_and]at h g;rw[oZ a b h.2 g.2]
theorem oY:∀a b c:List Nat,ltCps b a=false->ltCps c b=false->ltCps c a=false
 | [],_,[],_,_=>rfl
 | [],_,_::_,_,_=>rfl
 | _::_,[],_,h,_=>nomatch h
 | _::_,_::_,[],_,h=>nomatch h
 | x::a,y::b,z::c,h,g=>by
  simp only[ltCps,Bool.or_eq_false_iff,decide_eq_false_iff_not]at h g ⊢;refine⟨by omega,?_⟩;by_cases e:z=x
  ·have e2:z=y:=by omega
   subst e;subst e2;simp only[BEq.rfl,Bool.true_and]at h g ⊢;exact oY a b c h.2 g.2
  simp[e]
def leS (a b:Str):Prop:=ltCps b.cps.toList a.cps.toList=false
theorem hZ {a b:Str} (h:leS a b) (g:leS b a):a=b:=by
 have:=oZ _ _ g h;cases a;cases b;simpa using this
theorem gH:∀(r:List Str) (p:Str),risingS p r=true->(∀x∈r,leS p x)/\r.Pairwise leS
 | [],_,_=>⟨(λ_ h=>nomatch h),List.Pairwise.nil⟩
 | x::r,p,h=>by
  simp only[risingS,XJ,Bool.not_eq_true']at h;obtain⟨a,b⟩:=gH r x h.2;have px:leS p x:=h.1;refine⟨λy hy=>?_,List.Pairwise.cons a b⟩;rcases Qk.mp hy with e|hy
  ·rw[e];exact px
  exact oY _ _ _ px (a y hy)
theorem cz:∀{r:List Str},sortedS r=true->r.Pairwise leS
 | [],_=>List.Pairwise.nil
 | x::r,h=>let ⟨a,b⟩:=gH r x h;List.Pairwise.cons a b
theorem nu:∀a b:List Nat,ltCps a b=decide (a<b)
 | [],[]=>by simp[ltCps]
 | [],_::_=>by simp[ltCps]
 | _::_,[]=>by simp[ltCps]
 | x::a,y::b=>by
  simp only[ltCps];rw[nu a b,XS];simp[List.cons_lt_cons_iff]
end
theorem jW {α β:Type} [BEq α] [LawfulBEq α] [BEq β] [LawfulBEq β] {h:α->β} {p:α}:∀{ps:List α},(∀q∈ps,h q=h p->q=p)->(ps.map h).idxOf (h p)=ps.idxOf p
 | [],_=>rfl
 | q::ps,inj=>by
  have ih:=jW (h:=h) (p:=p) (ps:=ps) λx hx=>inj x (Qu _ hx);rw[Qt,List.idxOf_cons,List.idxOf_cons,ih];by_cases c:q=p
  ·subst c;simp
  have c2:h q≠h p:=λz=>c (inj q (by simp) z);rw[beq_eq_false_iff_ne.mpr c,beq_eq_false_iff_ne.mpr c2]
theorem lH {h:α->β} {p:α} {ps:List α} (inj:∀q∈ps,h q=h p->q=p):h p∈ps.map h↔p∈ps :=
 ⟨λm=>by obtain⟨q,hq,e⟩:=Qm.mp m;exact inj q hq e▸hq,λm=>Qm.mpr ⟨p,m,rfl⟩⟩
def ndM (g:Str->Str) (nd:Nd):Nd:=nd.map λe=>(g e.1,e.2)
def Res.map (f:Tu->Tu) (g:Str->Str):Res->Res
 | .odd way w=>.odd (way.map f) w
 | .many=>.many
 | .sheet nds=>.sheet (nds.map (ndM g))
def Sx.map (f:Tu->Tu) (h:Pl->Pl) (x:Sx):Sx:=⟨x.ps.map h,x.ws.map λw=>w.map f⟩
structure Sim (c:Bool) (r r':Rg) (ts ts':List Tu) (f:Tu->Tu) (g:Str->Str) (h:Pl->Pl):Prop where
 inj:∀p q,PlOk r p->PlOk r q->h p=h q->p=q
 zero:h (mks r.arcs,r.z)=(mks r'.arcs,r'.z)
 nm:∀t∈ts,(f t).1=g t.1
 st:∀p,PlOk r p->(c=true->∀s∈bh r ts p,cV r p.2 s=none)->bh r' ts' (h p)=(bh r ts p).map λs=>(f s.1,h s.2)
 od:∀p,PlOk r p->∀t∈ts,cW r.arcs p.1 t=true->cV r' (h p).2 (f t,h (bJ r p t).2)=cV r p.2 (bJ r p t)
section
variable {c:Bool} {r r':Rg} {ts ts':List Tu} {f:Tu->Tu} {g:Str->Str} {h:Pl->Pl}
theorem iS {p:Pl} {t:Tu} (ok:RgOk r) (wt:Wt r ts) (po:PlOk r p) (ht:t∈ts) (hm:cW r.arcs p.1 t=true) (co:cV r p.2 (bJ r p t)=none):PlOk r (bJ r p t).2:=by
 refine kL po (Wt.ok ok wt ht) hm λz=>?_;unfold cV at co;rw[Qs z]at co
 split at co <;> cases co
theorem eC (S:Sim c r r' ts ts' f g h) (ok:RgOk r) (wt:Wt r ts) {p:Pl} (po:PlOk r p) {way:List Tu}:∀{ss:List Sp1} {x:Sx} {nd:Nd},(∀s∈ss,∃t∈ts,cW r.arcs p.1 t=true/\s=bJ r p t)->(∀q∈x.ps,PlOk r q) ->
  bv r' (h p).2 (way.map f) (ss.map λs=>(f s.1,h s.2)) (x.map f h) (ndM g nd)=match bv r p.2 way ss x nd with
   | .inl res=>.inl (res.map f g)
   | .inr (x',nd')=>.inr (x'.map f h,ndM g nd')
 | [],x,nd,hs,hx=>by unfold bv;rfl
 | s::ss,x,nd,hs,hx=>by
  obtain⟨t,ht,hm,rfl⟩:=hs s (by simp);have hs':∀s∈ss,∃t∈ts,cW r.arcs p.1 t=true/\s=bJ r p t:=λs h=>hs s (Qu _ h);rw[Qt];unfold bv;dsimp only;rw[show (bJ r p t).1=t from rfl,S.od p po t ht hm]
  cases co:cV r p.2 (bJ r p t) with
  | some w =>
   dsimp only;show Sum.inl (Res.odd (way.map f++[f t]) w)=Sum.inl (Res.odd ((way++[t]).map f) w);rw[QI];rfl
  | none =>
  dsimp only;have so:=iS ok wt po ht hm co;have inj:∀q∈x.ps,h q=h (bJ r p t).2->q=(bJ r p t).2:=λq hq e=>S.inj q _ (hx q hq) so e;have mm:h (bJ r p t).2∈(x.map f h).ps↔(bJ r p t).2∈x.ps:=lH inj;have ix:(x.map f h).ps.idxOf (h (bJ r p t).2)=x.ps.idxOf (bJ r p t).2:=jW inj;have lx:(x.map f h).ps.length=x.ps.length:=Qc _;by_cases c1:(bJ r p t).2∈x.ps
  ·rw[Qs c1,Qs (mm.mpr c1),ix,<-eC S ok wt po hs' hx,S.nm t ht];unfold ndM;rw[QI];rfl
  rw[Qq c1,Qq λz=>c1 (mm.mp z),lx];by_cases c4:x.ps.length=40
  ·rw[Qs c4,Qs c4];rfl
  rw[Qq c4,Qq c4,<-eC S ok wt po hs' (x:=⟨x.ps++[(bJ r p t).2],x.ws++[way++[t]]⟩) (λq hq=>by
   rcases Qw.mp hq with hq|hq
   ·exact hx q hq
   rw[QB.mp hq];exact so),S.nm t ht]
  unfold ndM Sx.map;dsimp only;rw[QI,QI,QI];simp only[Qt,List.map_nil,QI]
theorem fO {row:Str} {way:List Tu} {res:Res}:∀{ss:List Sp1} {x:Sx} {nd:Nd},bv r row way ss x nd=.inl res->∀nds,res≠.sheet nds
 | [],x,nd,e=>by unfold bv at e;cases e
 | s::ss,x,nd,e=>by
  unfold bv at e
  cases co:cV r row s with
  | some w=>rw[co]at e;cases e;exact λ_ z=>nomatch z
  | none =>
  rw[co]at e;dsimp only at e
  split at e
  ·exact fO e
  split at e
  ·cases e;exact λ_ z=>nomatch z
  exact fO e
theorem d8 {p:Pl}:∀s∈bh r ts p,∃t∈ts,cW r.arcs p.1 t=true/\s=bJ r p t:=λs hs=>by
 obtain⟨t,ht,rfl⟩:=Qm.mp hs;obtain⟨ht,hm⟩:=Q2.mp ht;exact⟨t,ht,hm,rfl⟩
theorem iV (S:Sim c r r' ts ts' f g h) (ok:RgOk r) (wt:Wt r ts):∀(n:Nat) {x:Sx} {nds:List Nd},(∀q∈x.ps,PlOk r q)->(c=true->∃nd,outer r ts n x nds=.sheet nd)->outer r' ts' n (x.map f h) (nds.map (ndM g))=(outer r ts n x nds).map f g
 | 0,x,nds,hx,hc=>by unfold outer;rfl
 | n+1,x,nds,hx,hc=>by
  unfold outer at hc ⊢;have lx:(x.map f h).ps.length=x.ps.length:=Qc _;rw[Qc,lx];by_cases c1:nds.length<x.ps.length
  ·rw[Qs c1]at hc ⊢;rw[Qs c1];have gp:=Sx.p_mem c1;have po:=hx _ (Ql gp)
   have ep:(x.map f h).p nds.length=h (x.p nds.length):=by
    have:(x.map f h).ps[nds.length]?=some (h (x.p nds.length)):=by
     show (x.ps.map h)[_]?=_;rw[Qv,gp];rfl
    unfold Sx.p at this ⊢;rw[Qr,this];rfl
   have ew:(x.map f h).wy nds.length=(x.wy nds.length).map f:=by
    unfold Sx.wy Sx.map;dsimp only;rw[Qr,Qr,Qv];cases x.ws[nds.length]? <;> rfl
   rw[ep,ew];generalize x.p nds.length=p at *;generalize x.wy nds.length=way at *
   cases e:bv r p.2 way (bh r ts p) x [] with
   | inl res =>
    rw[e]at hc;have cf:c≠true:=λz=>by obtain⟨nd,q⟩:=hc z;exact fO e nd q
    rw[S.st p po λz=>absurd z cf];have q:=eC S ok wt po (way:=way) (x:=x) (nd:=[]) (d8 (r:=r) (ts:=ts) (p:=p)) hx;rw[e]at q;rw[show ([]:Nd)=ndM g [] from rfl,q]
   | inr y =>
   obtain⟨x',nd⟩:=y;rw[e]at hc;dsimp only at hc ⊢;obtain⟨ee,i⟩:=jU e;rw[S.st p po λ_ s hs=>(i.odd s hs).1];have q:=eC S ok wt po (way:=way) (x:=x) (nd:=[]) (d8 (r:=r) (ts:=ts) (p:=p)) hx;rw[e]at q;rw[show ([]:Nd)=ndM g [] from rfl,q];dsimp only
   have hx':∀q∈x'.ps,PlOk r q:=λq hq=>by
    rw[i.ps]at hq;rcases Qw.mp hq with hq|hq
    ·exact hx q hq
    obtain⟨s,hs,e2⟩:=i.new q hq;obtain⟨t,ht,hm,rfl⟩:=d8 s hs;rw[<-e2];exact iS ok wt po ht hm (i.odd _ hs).1
   have:=iV S ok wt n (x:=x') (nds:=nds++[nd]) hx' hc;rw[QI]at this;exact this
  rw[Qq c1];rw[Qq c1];rfl
theorem nQ (S:Sim c r r' ts ts' f g h) (ok:RgOk r) (wt:Wt r ts) (hc:c=true->∃nds,unf r ts=.sheet nds):unf r' ts'=(unf r ts).map f g:=by
 have:=iV S ok wt 41 (x:=Sx.first r) (nds:=[]) (λq hq=>by rw[QB.mp (show q∈[(mks r.arcs,r.z)] from hq)];exact sT ok) hc;rw[show (Sx.first r).map f h=Sx.first r' from ?_]at this
 ·exact this
 unfold Sx.first Sx.map;dsimp only;rw[Qt,List.map_nil,S.zero];rfl
end
def cK (f:Tu->Tu) (a:Arc):Arc:=⟨f a.one,f a.two,a.mark⟩
def prA (a:Arc):Tu × Tu:=(a.one,a.two)
structure Tr (r r':Rg) (f:Tu->Tu) (g:Str->Str):Prop where
 pm:r'.arcs.Perm (r.arcs.map (cK f))
 inj:∀t u,bt r.ws t->bt r.ws u->f t=f u->t=u
 nm:∀t,bt r.ws t->(f t).1=g t.1
 ws:r'.ws=r.ws.map g
 gi:∀x y,x∈r.ws->y∈r.ws->g x=g y->x=y
 nd:(r.arcs.map prA).Nodup
def atM (r:Rg) (f:Tu->Tu) (a:Arc):Nat:=(r.arcs.map λa=>prA (cK f a)).idxOf (prA a)
def hmM (r r':Rg) (f:Tu->Tu) (ms:List Int):List Int:=r'.arcs.map λa=>ms.getD (atM r f a) 0
section
variable {r r':Rg} {f:Tu->Tu} {g:Str->Str}
variable {a a':Arc}
theorem Tr.at_ (T:Tr r r' f g) (ok:RgOk r) {i:Nat} (h:r.arcs[i]?=some a):atM r f (cK f a)=i:=by
 unfold atM;have hi:i<(r.arcs.map λa=>prA (cK f a)).length:=by rw[Qc];exact(Qf.mp h).1
 have e:(r.arcs.map λa=>prA (cK f a))[i]=prA (cK f a):=by rw[List.getElem_map,(Qf.mp h).2]
 rw[<-e];refine List.Nodup.idxOf_getElem ?_ i hi;refine QN.mpr ((QN.mp T.nd).imp_of_mem λ{a b} ha hb n e=>n ?_);have oa:=ok.arcs a ha;have ob:=ok.arcs b hb;have e1:f a.one=f b.one:=congrArg Prod.fst e;have e2:f a.two=f b.two:=congrArg Prod.snd e;exact Prod.ext (T.inj _ _ oa.o ob.o e1) (T.inj _ _ oa.t ob.t e2)
theorem Tr.get (T:Tr r r' f g) (h:a'∈r'.arcs):∃(i:Nat) (a:Arc),r.arcs[i]?=some a/\a'=cK f a:=by
 obtain⟨a,ha,rfl⟩:=Qm.mp (T.pm.mem_iff.mp h);obtain⟨i,hi,rfl⟩:=QX ha;exact⟨i,_,Qd hi,rfl⟩
theorem Tr.mem (T:Tr r r' f g) (h:a∈r.arcs):cK f a∈r'.arcs:=T.pm.mem_iff.mpr (Qm.mpr ⟨a,h,rfl⟩)
variable {ms ns:List Int}
theorem pB {i:Nat} {m:Int} (h:ms[i]?=some m):ms.getD i 0=m:=by rw[Qr,h];rfl
theorem Tr.mkk (T:Tr r r' f g) (ok:RgOk r) (hl:ms.length=r.arcs.length) {i:Nat} (h:r.arcs[i]?=some a):∃m,ms[i]?=some m/\ms.getD (atM r f (cK f a)) 0=m:=by
 have hi:i<ms.length:=by rw[hl];exact(Qf.mp h).1
 exact⟨ms[i],Qd hi,by rw[T.at_ ok h];exact pB (Qd hi)⟩
theorem Tr.zero (T:Tr r r' f g) (ok:RgOk r):hmM r r' f (mks r.arcs)=mks r'.arcs:=by
 refine XW λa' h=>?_;obtain⟨i,a,ha,rfl⟩:=T.get h;obtain⟨m,hm,e⟩:=T.mkk ok (ms:=mks r.arcs) (Qc _) ha;rw[e];unfold mks at hm;rw[Qv,ha]at hm;exact(QH hm).symm
theorem Tr.hinj (T:Tr r r' f g) (ok:RgOk r) (h1:ms.length=r.arcs.length) (h2:ns.length=r.arcs.length) (e:hmM r r' f ms=hmM r r' f ns):ms=ns:=by
 refine List.ext_getElem? λi=>?_;by_cases hi:i<r.arcs.length
 ·have ha:=Qd hi;obtain⟨m,hm,e1⟩:=T.mkk ok h1 ha;obtain⟨n,hn,e2⟩:=T.mkk ok h2 ha;have:=List.map_inj_left.mp e _ (T.mem (Ql ha));rw[e1,e2]at this;rw[hm,hn,this]
 rw[Q8 (by omega),Q8 (by omega)]
theorem Tr.two (T:Tr r r' f g) (ok:RgOk r) (h1:ms.length=r.arcs.length) {x:Int}:x∈hmM r r' f ms↔x∈ms:=by
 constructor
 ·intro h;obtain⟨a',ha',rfl⟩:=Qm.mp h;obtain⟨i,a,ha,rfl⟩:=T.get ha';obtain⟨m,hm,e⟩:=T.mkk ok h1 ha;rw[e];exact Ql hm
 intro h;obtain⟨i,hi,rfl⟩:=QX h;have ha:=Qd (l:=r.arcs) (i:=i) (by omega);obtain⟨m,hm,e⟩:=T.mkk ok h1 ha;rw[Qd hi]at hm;exact Qm.mpr ⟨_,T.mem (Ql ha),by rw[e];exact(QH hm).symm⟩
theorem kz {α β:Type} (l:List α) (k:α->β):l.zip (l.map k)=l.map λa=>(a,k a):=by
 have:=List.zip_map' (f:=id) (g:=k) (l:=l);rwa [List.map_id]at this
theorem wX (T:Tr r r' f g) {t:Tu} (ao:ArOk r.ws a) (to:bt r.ws t) {m:Int}:mkB (cK f a) m (f t)=mkB a m t:=by
 have e1:f a.one=f t↔a.one=t:=⟨T.inj _ _ ao.o to,λe=>by rw[e]⟩;have e2:f a.two=f t↔a.two=t:=⟨T.inj _ _ ao.t to,λe=>by rw[e]⟩;unfold mkB cK;simp only[e1,e2]
theorem Tr.marks (T:Tr r r' f g) (ok:RgOk r) (hl:ms.length=r.arcs.length) {t:Tu} (to:bt r.ws t):eX r'.arcs (hmM r r' f ms) (f t)=hmM r r' f (eX r.arcs ms t):=by
 unfold eX hmM;rw[kz,Xm];refine XW λa' h=>?_;obtain⟨i,a,ha,rfl⟩:=T.get h;obtain⟨m,hm,e⟩:=T.mkk ok hl ha;show mkB (cK f a) (ms.getD (atM r f (cK f a)) 0) (f t)=_;rw[e,T.at_ ok ha,wX T (ok.arcs a (Ql ha)) to];refine(pB ?_).symm;rw[Qv,show (r.arcs.zip ms)[i]?=some (a,m) from Xy.mpr ⟨ha,hm⟩];rfl
theorem Tr.may (T:Tr r r' f g) (ok:RgOk r) (hl:ms.length=r.arcs.length) {t:Tu} (to:bt r.ws t):cW r'.arcs (hmM r r' f ms) (f t)=cW r.arcs ms t:=by
 unfold cW hmM;rw[kz,List.all_map,XS,Xb,Xb]
 constructor
 ·intro h p hp;obtain⟨i,hi,e⟩:=QX hp;have ep:=Qd hi;rw[e]at ep;obtain⟨ea,em⟩:=Xy.mp (show (r.arcs.zip ms)[i]?=some (p.1,p.2) from ep);obtain⟨m,hm,e2⟩:=T.mkk ok hl ea;rw[em]at hm;cases hm;have:(!decide ((cK f p.1).two=f t) || decide (0<ms.getD (atM r f (cK f p.1)) 0))=true:=h _ (T.mem (Ql ea));rw[e2]at this;have ao:=ok.arcs _ (Ql ea);have e3:decide ((cK f p.1).two=f t)=decide (p.1.two=t):=decide_eq_decide.mpr ⟨T.inj _ _ ao.t to,λe=>by show f _=_;rw[e]⟩;rw[e3]at this;exact this
 intro h a' ha';obtain⟨i,a,ha,rfl⟩:=T.get ha';obtain⟨m,hm,e2⟩:=T.mkk ok hl ha;have:=h (a,m) (Ql (i:=i) (Xy.mpr ⟨ha,hm⟩));show (!decide ((cK f a).two=f t) || decide (0<ms.getD (atM r f (cK f a)) 0))=true;rw[e2];have ao:=ok.arcs _ (Ql ha);have e3:decide ((cK f a).two=f t)=decide (a.two=t):=decide_eq_decide.mpr ⟨T.inj _ _ ao.t to,λe=>by show f _=_;rw[e]⟩;rw[e3];exact this
theorem Tr.idx (T:Tr r r' f g) {t:Tu} (to:bt r.ws t):r'.ws.idxOf (f t).1=r.ws.idxOf t.1:=by
 rw[T.ws,T.nm t to];exact jW λq hq e=>T.gi _ _ hq to.1 e
theorem Tr.come (T:Tr r r' f g) (ok:RgOk r) {ts ts':List Tu} (wt:Wt r ts) (wt':Wt r' ts') (hl:ms.length=r.arcs.length)
  (mono:∀t u,t∈ts->u∈ts->cW r.arcs ms t=true->cW r.arcs ms u=true->t≠u->leT t u->leT (f t) (f u)):ts'.filter (cW r'.arcs (hmM r r' f ms))=(ts.filter (cW r.arcs ms)).map f:=by
 have tok:∀t∈ts,bt r.ws t:=λt h=>Wt.ok ok wt h;refine eS (le:=leT) (λ_ _=>lL) (wt'.nd.filter _) (QN.mpr ((wt.nd.filter _).imp_of_mem λ{a b} ha hb n e=>n (T.inj _ _ (tok _ (Q2.mp ha).1) (tok _ (Q2.mp hb).1) e))) (λx=>?_) (wt'.so.filter _) (QN.mpr (((wt.so.filter _).and (wt.nd.filter _)).imp_of_mem λ{a b} ha hb n=>?_))
 ·rw[Q2,Qm,wt'.mem]
  constructor
  ·rintro⟨⟨a',ha',rfl⟩,hm⟩;obtain⟨i,a,ha,rfl⟩:=T.get ha';have ha:=Ql ha;refine⟨a.two,Q2.mpr ⟨(wt.mem _).mpr ⟨a,ha,rfl⟩,?_⟩,rfl⟩;rw[<-T.may ok hl (ok.arcs a ha).t];exact hm
  rintro⟨t,ht,rfl⟩;obtain⟨ht,hm⟩:=Q2.mp ht;obtain⟨a,ha,rfl⟩:=(wt.mem _).mp ht;exact⟨⟨_,T.mem ha,rfl⟩,by rw[T.may ok hl (ok.arcs a ha).t];exact hm⟩
 obtain⟨ha,ma⟩:=Q2.mp ha;obtain⟨hb,mb⟩:=Q2.mp hb;exact mono _ _ ha hb ma mb n.2 n.1
end
section
open PySem.Spec PyProof.Rows
theorem o_ {t u:Tu}:leT t u↔leS t.1 u.1/\(t.1=u.1->leS t.2 u.2):=by
 have h:leT t u↔Tm.lb [Sum.inr u.1,Sum.inr u.2] [Sum.inr t.1,Sum.inr t.2]=false:=Iff.rfl;have e1:∀x y:Str,Tm.kb (.inr x) (.inr y)=ltCps x.cps.toList y.cps.toList:=λx y=>(nu _ _).symm;rw[h,Tm.eB,Tm.eB,e1,e1];unfold leS;by_cases c:t.1=u.1
 ·rw[c];simp[Tm.lb]
 have c2:¬u.1=t.1:=λz=>c z.symm;simp[c,c2]
end
theorem dU (st:StOk n z) (hi:i<n) (hj:j<n):sgB (bc z i) j=if j=i then !sgB z j else sgB z j:=by
 have hl:=st.len;have e:=turn_list st hi;have g:∀(w:Str) k,w.cps.getD k 0=w.cps.toList.getD k 0:=λw k=>by simp[QW,Qr]
 unfold sgB;rw[g (bc z i),g z,e];have zl:z.cps.toList.length=n:=by simpa using hl
 by_cases c:j=i
 ·subst c;rw[Qs rfl,Qr,Xf (by rw[QM];omega),QM,Nat.min_eq_left (by omega),Nat.sub_self,List.getElem?_cons_zero,Option.getD_some,g z];cases q:(z.cps.toList.getD j 0==49) <;> rfl
 rw[Qq c];by_cases l:j<i
 ·rw[Qr,Xx (by rw[QM];omega),List.getElem?_take_of_lt l,<-Qr]
 rw[Qr,Xf (by rw[QM];omega),QM,Nat.min_eq_left (by omega)];obtain⟨k,hk⟩:∃k,j-i=k+1:=⟨j-i-1,by omega⟩;rw[hk,List.getElem?_cons_succ,List.getElem?_drop,show i+1+k=j by omega,<-Qr]
theorem uo {y:Str} (hy:StOk n y) (hz:StOk n z) (h:∀i,i<n->sgB y i=sgB z i):y=z:=by
 have ly:=hy.len;have lz:=hz.len
 have e:y.cps=z.cps:=by
  refine Array.ext (ly.trans lz.symm) λi h1 h2=>?_;have:=h i (by omega);unfold sgB at this;have g1:y.cps.getD i 0=y.cps[i]:=by simp[Array.getD,h1]
  have g2:z.cps.getD i 0=z.cps[i]:=by simp[Array.getD,h2]
  rw[g1,g2]at this;rcases hy.signs _ (Array.getElem_mem_toList h1) with a|a <;> rcases hz.signs _ (Array.getElem_mem_toList h2) with b|b <;> rw[a,b]at this ⊢ <;> simp at this
 cases y;cases z;cases e;rfl
theorem pT (st:StOk n z) (hi:i<n) (hj:j<n):bc (bc z i) j=bc (bc z j) i:=by
 refine uo (cN (cN st hi) hj) (cN (cN st hj) hi) λk hk=>?_;rw[dU (cN st hi) hj hk,dU (cN st hj) hi hk,dU st hi hk,dU st hj hk];by_cases a:k=i
 ·subst a;by_cases b:k=j
  ·rw[Qs rfl,Qs b,Qs b,Qs rfl]
  rw[Qs rfl,Qq b,Qq b,Qs rfl]
 by_cases b:k=j
 ·rw[Qs b,Qq a,Qq a,Qs b]
 rw[Qq b,Qq a,Qq a,Qq b]
theorem gW {s s':Sp1} (h1:sgB row' (r'.ws.idxOf s'.1.1)=decide (s'.1.2 = "+")↔sgB row (r.ws.idxOf s.1.1)=decide (s.1.2 = "+")) (h2:2∈s'.2.1↔2∈s.2.1):cV r' row' s'=cV r row s:=by
 unfold cV;simp only[h1,h2]
def fN (g:Str->Str) (t:Tu):Tu:=(g t.1,t.2)
def rgN (g:Str->Str) (r:Rg) (as:List Arc):Rg:=⟨r.ins.map g,r.outs.map g,r.z,as⟩
variable {g:Str->Str}
theorem yw {r:Rg} (gi:∀x y,x∈r.ws->y∈r.ws->g x=g y->x=y) (nd:(r.arcs.map prA).Nodup) (pm:as.Perm (r.arcs.map (cK (fN g)))):Tr r (rgN g r as) (fN g) g :=
 ⟨pm,λt u ht hu e=>Prod.ext (gi _ _ ht.1 hu.1 (congrArg Prod.fst e)) (show t.2=u.2 from(congrArg Prod.snd e:(fN g t).2=(fN g u).2)),λ_ _=>rfl,by unfold rgN Rg.ws;rw[QI],gi,nd⟩
theorem bt.names {ws:List Str} {t:Tu} (h:bt ws t):bt (ws.map g) (fN g t):=⟨Qm.mpr ⟨_,h.1,rfl⟩,h.2⟩
theorem yx (ok:RgOk r) (T:Tr r (rgN g r as) (fN g) g):RgOk (rgN g r as):=by
 have ew:=T.ws;have lw:(rgN g r as).ws.length=r.ws.length:=by rw[ew,Qc]
 refine⟨?_,by rw[lw];exact ok.w1,by rw[lw];exact ok.w5,by rw[lw];exact ok.st,?_,λa' h=>?_⟩
 ·rw[ew];exact QN.mpr (ok.nd.imp_of_mem λ{a b} ha hb n e=>n (T.gi _ _ ha hb e))
 ·have:=T.pm.length_eq;rw[Qc]at this;rw[this];exact ok.few
 obtain⟨i,a,ha,rfl⟩:=T.get h;have ao:=ok.arcs _ (Ql ha);rw[ew];exact⟨ao.o.names,ao.t.names,λz=>ao.ne (T.inj _ _ ao.o ao.t z),ao.m⟩
theorem pQ (ok:RgOk r) (T:Tr r (rgN g r as) (fN g) g) (mono:∀x y,x∈r.ws->y∈r.ws->leS x y->leS (g x) (g y)) (wt:Wt r ts) (wt':Wt (rgN g r as) ts'):unf (rgN g r as) ts'=(unf r ts).map (fN g) g:=by
 have tok:∀t∈ts,bt r.ws t:=λt h=>Wt.ok ok wt h;refine nQ (c:=false) (h:=λp=>(hmM r (rgN g r as) (fN g) p.1,p.2)) ⟨λp q hp hq e=>?_,?_,λt _=>rfl,λp po _=>?_,λp po t ht hm=>?_⟩ ok wt λz=>nomatch z
 ·exact Prod.ext (T.hinj ok hp.m.len hq.m.len (Prod.mk.inj e).1) (Prod.mk.inj e).2
 ·rw[T.zero ok];rfl
 ·have e:=T.come ok wt wt' po.m.len λt u ht hu _ _ _ l=>by
   rw[o_]at l ⊢;exact⟨mono _ _ (tok _ ht).1 (tok _ hu).1 l.1,λe=>l.2 (T.gi _ _ (tok _ ht).1 (tok _ hu).1 e)⟩
  unfold bh;rw[show ((hmM r (rgN g r as) (fN g) p.1,p.2):Pl).1=hmM r (rgN g r as) (fN g) p.1 from rfl,e,Xm,Xm];refine XW λt ht=>?_;have to:=tok t (Q2.mp ht).1;show (fN g t,(eX (rgN g r as).arcs (hmM r (rgN g r as) (fN g) p.1) (fN g t),bc p.2 ((rgN g r as).ws.idxOf (fN g t).1)))=(fN g t,(hmM r (rgN g r as) (fN g) (eX r.arcs p.1 t),bc p.2 (r.ws.idxOf t.1)));rw[T.marks ok po.m.len to,T.idx to]
 have to:=tok t ht;refine gW ?_ (T.two ok (g_ po.m.len));show sgB p.2 ((rgN g r as).ws.idxOf (fN g t).1)=decide (t.2 = "+")↔_;rw[T.idx to];rfl
def fF (n:Str) (t:Tu):Tu:=if t.1=n then (t.1,gS t.2) else t
def rgF (n:Str) (r:Rg) (as:List Arc):Rg:=⟨r.ins,r.outs,bc r.z (r.ws.idxOf n),as⟩
theorem ij (n:Str) (t:Tu):(fF n t).1=t.1:=by unfold fF;split <;> rfl
theorem ux (h:z = "+" \/ z = "-"):gS (gS z)=z:=by rcases h with rfl|rfl <;> decide +kernel
theorem nE {n:Str} {t:Tu} (h:t.2 = "+" \/ t.2 = "-"):fF n (fF n t)=t:=by
 by_cases c:t.1=n
 ·have e:fF n t=(t.1,gS t.2):=Qs c;rw[e];unfold fF;rw[Qs c];exact Prod.ext rfl (ux h)
 have e:fF n t=t:=Qq c;rw[e,e]
theorem bt.flip {ws:List Str} {n:Str} {t:Tu} (h:bt ws t):bt ws (fF n t):=by
 refine⟨by rw[ij];exact h.1,?_⟩;unfold fF
 split
 ·exact(su h).1.2
 exact h.2
theorem v8 {r:Rg} {n:Str} (nd:(r.arcs.map prA).Nodup) (pm:as.Perm (r.arcs.map (cK (fF n)))):Tr r (rgF n r as) (fF n) id :=
 ⟨pm,λt u ht hu e=>by rw[<-nE (n:=n) ht.2,e,nE hu.2],λt _=>ij n t,by rw[List.map_id];rfl,λ_ _ _ _ e=>e,nd⟩
theorem v_ {n:Str} (ok:RgOk r) (hn:n∈r.ws) (T:Tr r (rgF n r as) (fF n) id):RgOk (rgF n r as):=by
 refine⟨ok.nd,ok.w1,ok.w5,cN ok.st (QO hn),?_,λa' h=>?_⟩
 ·have:=T.pm.length_eq;rw[Qc]at this;rw[this];exact ok.few
 obtain⟨i,a,ha,rfl⟩:=T.get h;have ao:=ok.arcs _ (Ql ha);exact⟨ao.o.flip,ao.t.flip,λz=>ao.ne (T.inj _ _ ao.o ao.t z),ao.m⟩
theorem iZ {s:Sp1} (h:cV r row s=none):sgB row (r.ws.idxOf s.1.1)=!decide (s.1.2 = "+"):=by
 unfold cV at h;by_cases c:sgB row (r.ws.idxOf s.1.1)=decide (s.1.2 = "+")
 ·rw[Qs c]at h;cases h
 cases e:sgB row (r.ws.idxOf s.1.1) <;> cases e2:decide (s.1.2 = "+") <;> simp_all
variable {nds:List Nd}
theorem rh {n:Str} (ok:RgOk r) (hn:n∈r.ws) (T:Tr r (rgF n r as) (fF n) id) (wt:Wt r ts) (wt':Wt (rgF n r as) ts') (hs:unf r ts=.sheet nds):unf (rgF n r as) ts'=.sheet nds:=by
 have tok:∀t∈ts,bt r.ws t:=λt h=>Wt.ok ok wt h;have hk:=QO hn;have e:=nQ (c:=true) (r':=rgF n r as) (ts':=ts') (f:=fF n) (g:=id) (h:=λp=>(hmM r (rgF n r as) (fF n) p.1,bc p.2 (r.ws.idxOf n))) ⟨λp q hp hq e=>?_,?_,λt _=>ij n t,λp po hc=>?_,λp po t ht hm=>?_⟩ ok wt λ_=>⟨nds,hs⟩
 ·rw[e,hs];unfold Res.map;dsimp only;rw[show ndM id=id from funext λnd=>by unfold ndM;rw[show (λe:Str × Nat=>(id e.1,e.2))=id from rfl,List.map_id];rfl,List.map_id]
 ·refine Prod.ext (T.hinj ok hp.m.len hq.m.len (Prod.mk.inj e).1) ?_;have e2:bc p.2 (r.ws.idxOf n)=bc q.2 (r.ws.idxOf n):=(Prod.mk.inj e).2;rw[<-gr hp.z hk,e2,gr hq.z hk]
 ·rw[T.zero ok];rfl
 ·have hc:=hc rfl
  have e:=T.come ok wt wt' po.m.len λt u ht hu mt mu ne l=>by
   have s1:=iZ (hc (bJ r p t) (Qm.mpr ⟨t,Q2.mpr ⟨ht,mt⟩,rfl⟩));have s2:=iZ (hc (bJ r p u) (Qm.mpr ⟨u,Q2.mpr ⟨hu,mu⟩,rfl⟩))
   have n1:t.1≠u.1:=λz=>by
    have s1:sgB p.2 (r.ws.idxOf t.1)=!decide (t.2 = "+"):=s1;have s2:sgB p.2 (r.ws.idxOf u.1)=!decide (u.2 = "+"):=s2;rw[z,s2]at s1;refine ne (Prod.ext z ?_);rcases(tok _ ht).2 with e1|e1 <;> rcases(tok _ hu).2 with e2|e2 <;> rw[e1,e2]at s1 ⊢ <;> revert s1 <;> decide +kernel
   rw[o_]at l ⊢;rw[ij,ij];exact⟨l.1,λz=>absurd z n1⟩
  unfold bh;rw[show ((hmM r (rgF n r as) (fF n) p.1,bc p.2 (r.ws.idxOf n)):Pl).1=hmM r (rgF n r as) (fF n) p.1 from rfl,e,Xm,Xm];refine XW λt ht=>?_;have to:=tok t (Q2.mp ht).1;show (fF n t,(eX (rgF n r as).arcs (hmM r (rgF n r as) (fF n) p.1) (fF n t),bc (bc p.2 (r.ws.idxOf n)) ((rgF n r as).ws.idxOf (fF n t).1)))=(fF n t,(hmM r (rgF n r as) (fF n) (eX r.arcs p.1 t),bc (bc p.2 (r.ws.idxOf t.1)) (r.ws.idxOf n)));rw[T.marks ok po.m.len to,T.idx to,pT po.z hk (QO to.1)]
 have to:=tok t ht;have hj:=QO to.1;refine gW ?_ (T.two ok (g_ po.m.len));show sgB (bc p.2 (r.ws.idxOf n)) ((rgF n r as).ws.idxOf (fF n t).1)=decide ((fF n t).2 = "+")↔sgB p.2 (r.ws.idxOf t.1)=decide (t.2 = "+");rw[T.idx to,dU po.z hk hj];by_cases c:t.1=n
 ·rw[Qs (by rw[c]),show fF n t=(t.1,gS t.2) from Qs c];show (!sgB p.2 (r.ws.idxOf t.1))=decide (gS t.2 = "+")↔_;rcases to.2 with e|e <;> rw[e] <;> cases sgB p.2 (r.ws.idxOf t.1) <;> decide +kernel
 have c2:r.ws.idxOf t.1≠r.ws.idxOf n:=λz=>c (by
  have h1:=ic to.1;have h2:=ic hn;rw[z,h2]at h1
  exact(QH h1).symm)
 rw[Qq c2,show fF n t=t from Qq c]
theorem wm {r r':Rg} (e1:r.ws=r'.ws) (e2:r.arcs=r'.arcs) (e3:r.z=r'.z) (ts:List Tu):unf r ts=unf r' ts:=by
 have o:∀row s,cV r row s=cV r' row s:=λrow s=>by unfold cV;rw[e1]
 have st:∀p,bh r ts p=bh r' ts p:=λp=>by unfold bh bJ;rw[e1,e2]
 have inn:∀{row:Str} {way:List Tu} (ss:List Sp1) (x:Sx) (nd:Nd),bv r row way ss x nd=bv r' row way ss x nd:=λ{row way} ss=>by
  induction ss with
  | nil=>intro x nd;unfold bv;rfl
  | cons s ss ih =>
  intro x nd;unfold bv;rw[o];simp only[ih]
 have out:∀n x nds,outer r ts n x nds=outer r' ts n x nds:=λn=>by
  induction n with
  | zero=>intro x nds;unfold outer;rfl
  | succ n ih =>
  intro x nds;unfold outer;simp only[st,inn,ih]
 unfold unf;rw[out,show Sx.first r=Sx.first r' by unfold Sx.first;rw[e2,e3]]
structure Low (z:Str):Prop where
 l1:1<=z.length
 l8:z.length<=8
 low:∀c∈z.cps.toList,97<=c/\c<=122
def rH:Sp:=λvs H Q _=>∃a xs,vs=[.ref a]/\H a=some (.tup xs)/\xs.length<=1000/\Q (.bl (decide (xs.length=2))) H
def rJ:Sp:=λvs H Q _=>∃z,vs=[.str z]/\Low z/\∀H',ak H H'->Q (.bl true) H'
theorem pj {r r':R2} {ta tb tc:TE} (q:ta U H λx H1=>tb U H1 λy H2=>r x y H2 λz H3=>∃k,z=.bl k/\(if k=true then tc U H3 λw' H4=>r' y w' H4 Q else Q (.bl false) H3)):mJ r r' ta tb tc U H Q:=q
theorem wZ {c:Nat} (h:97<=c/\c<=122):(!(Builtin.Str.occurrences (Str.ofString "abcdefghijklmnopqrstuvwxyz") (⟨#[c]⟩:Str) 0 (Str.ofString "abcdefghijklmnopqrstuvwxyz").length 1).isEmpty)=true:=by
 have all:∀k:Fin 26,(!(Builtin.Str.occurrences (Str.ofString "abcdefghijklmnopqrstuvwxyz") (⟨#[97+k.val]⟩:Str) 0 (Str.ofString "abcdefghijklmnopqrstuvwxyz").length 1).isEmpty)=true:=by decide +kernel
 have q:=all ⟨c-97,by omega⟩;have e:97+(c-97)=c:=by omega
 simpa only[e] using q
def kM:Sp:=λvs H Q _=>∃(l:Addr) (ts:List Str),vs=[.ref l]/\H l=some (.lst (ts.map V.str))/\ts.length<=100/\(∀z∈ts,Low z)/\∀H',ak H H'->Q (.bl (decide ts.Nodup)) H'
theorem xk {K:PySem.W.Frag} (q:ta U H λvs H1=>∃(l:Addr) (ts:List Str),vs=[.ref l]/\SqL K H1 l (ts.map V.str)/\ts.length<1000/\Q (.int (pP ts)) H1):nX K ta U H Q:=q
def vI:Sp:=λvs H Q _=>∃(z:Str) (m:Nat),vs=[.str z,.int (m:Int)]/\m<=11/\StOk m z/\∀H',ak H H'->Q (.bl true) H'
def n9:Sp:=λvs H Q _=>∃(i:Int),vs=[.int i]/\Q (.bl true) H
def oq:Sp:=λvs H Q _=>∃(i n:Int),vs=[.int i,.int n]/\Q (.bl (decide (0<=i/\i<n))) H
theorem w_ {K:PySem.W.Frag}:PySem.W.kitOne K (.type "int") (.type "bool")=some false:=by with_unfolding_all rfl
section
theorem mP:FnScope ["thing"] ["thing"] (av (top 5)):=by fin2
variable {fd:FuncData} {f:Addr}
theorem uI (Fu:Fun K "is_pair" "is_pair" (top 5) f fd) (T:Txt K mg TT):FnOk P w K mg base CX0 1 f fd ["thing"] rH:=by
 have S:=mP;refine Fu.ok S (by room) (λcdv A outer s H vs Q E hr h=>?_);obtain⟨a,xs,rfl,ha,hx,q⟩:=h;refine⟨_,(aI (aD (dg (am bp (by rfl) T.n_isinstance Q0 (aa (pv 0) (aa (cE (v:=.ty "tuple") (by rfl) T.n_tuple PyProof.Rows.boot_tuple rfl) ac ad) ad)) (dD (bj cJ (am ay (by rfl) T.n_len QJ (aa (pv 0) ac ad)) ae (aF _)))))),?_⟩;x_go;lk;refine⟨_,_,_,true,rfl,.tup ha,cu _,?_⟩;refine⟨_,rfl,b9 ?_⟩;lk;refine⟨a,xs,rfl,.inr (SqT.of ha),?_⟩;lk
 have e:decide (V.int ↑xs.length=V.int 2)=decide (xs.length=2):=by
  rw[XS,decide_eq_true_iff,decide_eq_true_iff]
  constructor
  ·intro h;injection h with h;omega
  intro h;rw[h];rfl
 rw[e];exact q
theorem mQ:FnScope ["thing"] ["thing"] (av (top 4)):=by fin2
theorem uJ (Fu:Fun K "is_name" "is_name" (top 4) f fd) (T:Txt K mg TT):FnOk P w K mg base CX0 1 f fd ["thing"] rJ:=by
 have S:=mQ;refine Fu.ok S (by room) (λcdv A outer s H vs Q E hr h=>?_);obtain⟨z,rfl,lz,q⟩:=h;obtain⟨_,gLT⟩:=T.lETTERS;obtain⟨_,gML⟩:=T.mLETTERS
 refine⟨_,(aK (ps_if (PW.pt (dW (ci (ca (am bp (by rfl) T.n_isinstance Q0 (aa (pv 0) (aa (cE (v:=.ty "str") (by rfl) T.n_str PyProof.Rows.boot_str rfl) ac ad) ad)))) (dC (ci (rW oQ oQ ae (am dM (by rfl) T.n_len QJ (aa (pv 0) ac ad)) (c8 (v:=.int 8) (by rfl) gML ⟨_,rfl⟩)))))) (aI (aD c9)) pss_nil)
  (aI (aD (am (dA rfl) (by rfl) T.n_all PyProof.Rows.boot_all (aa (c7 "sign" [] (rY (pv 0)) (λ_ _ _ _=>(bj qk (pv 0) (c8 (v:=.str "abcdefghijklmnopqrstuvwxyz") (by rfl) gLT ⟨_,rfl⟩) rfl))) ac))))),?_⟩
 x_go;lk;refine⟨_,_,_,_,rfl,TyOf.str z,cu "str", ?_⟩;refine⟨_,rfl,iteF ?_⟩;have big:1000<sizeLine:=by decide
 have l1:=lz.l1;have l8:=lz.l8;lk;refine pj ?_;lk;refine⟨_,rfl,by omega,?_⟩;lk;refine ifT (QA (by omega)) ?_;lk;refine ifF (by rw[QA (by omega)];rfl) ?_;lk;refine bx ?_;lk;intro D hD;refine lZ (λn H' ys=>ak H H'/\H' D=some (.lst ys)/\ys=(List.replicate n true).map V.bl) ⟨aC hD,ah,rfl⟩ (λn H' ys p=>p.2.1) (λn H' ys hn p=>?_) (λH' ys p=>?_)
 ·obtain⟨Sm,hd,rfl⟩:=p;refine aw ⟨trivial,i_yes (b9 ?_)⟩;refine i_op (aY rfl (i_c ⟨_,_,rfl,rfl,?_⟩));refine dQ.mk hd hn (by rw[Qc,List.length_replicate];have:z.cps.size=z.length:=rfl;omega) ⟨bK Sm hD,ah,?_⟩
  have hc:=wZ (c:=z.cps.getD n 0) (by
   have e:z.cps.getD n 0=z.cps[n]:=by simp[Array.getD,hn]
   rw[e]
   exact lz.low _ (by simp))
  rw[List.replicate_succ',QI];exact congrArg (λb=>List.map V.bl (List.replicate n true)++[V.bl b]) hc
 obtain⟨Sm,hd,rfl⟩:=p;refine bf ⟨_,_,rfl,SqL.of hd,?_⟩;have e:(List.replicate z.cps.size true).all id=true:=by simp
 rw[e];exact q H' Sm
theorem eG:FnScope ["things"] ["things"] (av (top 9)):=by fin2
theorem qo (Fu:Fun K "are_unlike_names" "are_unlike_names" (top 9) f fd) (T:Txt K mg TT) (f_is_name:Fn P w K mg base "is_name" ["thing"] 1 rJ):FnOk P w K mg base CX0 2 f fd ["things"] kM:=by
 have S:=eG;refine Fu.ok S (by room) (λcdv A outer s H vs Q E hr h=>?_);obtain⟨l,ts,rfl,hl,sz,low,q⟩:=h;refine⟨_,(aI (aD (dg (am (dA rfl) (by rfl) T.n_all PyProof.Rows.boot_all (aa (c7 "thing" [] (aZ (pv 0)) (λ_ _ _ _=>(aJ f_is_name hr (aa (pv 0) ac ad)))) ac)) (dD (bj cJ (qi rfl (by rfl) T.n_len (by rfl) T.n_set (aa (pv 0) ac ad)) (am ay (by rfl) T.n_len QJ (aa (pv 0) ac ad)) (aF _)))))),?_⟩;x_go;lk;refine bx ?_;lk;refine⟨l,rfl,⟨_,SqL.of hl⟩,λD hD=>?_⟩;refine jj (xs:=ts.map V.str) (λn H' ys=>ak H H'/\H' D=some (.lst ys)/\ys=(List.replicate n true).map V.bl) ⟨aC hD,ah,rfl⟩ (λn H' ys p=>⟨p.2.1,SqL.of (p.1 _ _ hl)⟩) (λn x H' ys e p=>?_) (λH' ys p=>?_)
 ·obtain⟨Sm,hd,rfl⟩:=p;have hn:n<(ts.map V.str).length:=(Qf.mp e).1;rw[Qv]at e
  obtain⟨z,hz,rfl⟩:∃z,ts[n]?=some z/\V.str z=x:=by
   cases h:ts[n]? with
   | none=>rw[h]at e;cases e
   | some z=>rw[h]at e;exact⟨z,rfl,QH e⟩
  refine aw ⟨trivial,i_yes (b9 ?_)⟩;refine i_call (i_cons (aY rfl (bf ⟨z,rfl,low z (Ql hz),λH2 S2=>?_⟩)));refine dQ.mk (S2 _ _ hd) hn (by rw[Qc,List.length_replicate];rw[Qc]at hn;omega) ⟨bK (Sm.trans S2) hD,ah,?_⟩;rw[List.replicate_succ',QI];rfl
 obtain⟨Sm,hd,rfl⟩:=p;refine bf ⟨_,_,rfl,SqL.of hd,?_⟩;have e:(List.replicate (ts.map V.str).length true).all id=true:=by simp
 rw[e];have hl':=Sm _ _ hl;refine⟨_,rfl,b9 ?_⟩;lk;refine xk ?_;lk;refine⟨l,ts,rfl,SqL.of hl',by omega,?_⟩;lk
 have e2:decide (V.int (pP ts)=V.int ((ts.map V.str).length:Nat))=decide ts.Nodup:=by
  rw[XS,decide_eq_true_iff,decide_eq_true_iff,<-rg,Qc]
  constructor
  ·intro h;injection h with h;omega
  intro h;rw[h]
 rw[e2];exact q H' Sm
theorem p8:FnScope ["thing", "many"] ["thing", "many"] (av (top 8)):=by fin2
theorem wS (Fu:Fun K "is_row" "is_row" (top 8) f fd) (T:Txt K mg TT):FnOk P w K mg base CX0 1 f fd ["thing", "many"] vI:=by
 have S:=p8;refine Fu.ok S (by room) (λcdv A outer s H vs Q E hr h=>?_);obtain⟨z,m,rfl,hm,st,k⟩:=h
 refine⟨_,(aK (ps_if (PW.pt (dW (ci (ca (am bp (by rfl) T.n_isinstance Q0 (aa (pv 0) (aa (cE (v:=.ty "str") (by rfl) T.n_str PyProof.Rows.boot_str rfl) ac ad) ad)))) (dC (aG iX (am dM (by rfl) T.n_len QJ (aa (pv 0) ac ad)) (pv 1) (aF _))))) (aI (aD c9)) pss_nil)
  (aI (aD (am (dA rfl) (by rfl) T.n_all PyProof.Rows.boot_all (aa (c7 "sign" [] (rY (pv 0)) (λ_ _ _ _=>(bj (iY T.tab) (pv 0) (c8 (v:=.ref TT) (by rfl) T.tURNED rfl) rfl))) ac))))),?_⟩
 x_go;lk;refine⟨_,_,_,_,rfl,TyOf.str z,cu "str", ?_⟩;refine⟨_,rfl,iteF ?_⟩;have hz:z.length=m:=st.len;have big:1000<sizeLine:=by decide
 lk;refine⟨_,rfl,(by omega),?_⟩;lk;refine jS (λh=>?_) (λ_=>?_)
 ·exfalso;have e:(V.int ↑z.length)=V.int (m:Int):=congrArg (λ(n:Nat)=>V.int (n:Int)) hz;simp[e]at h
 lk;refine bx ?_;lk;intro D hD;refine lZ (λn H' ys=>ak H H'/\H' D=some (.lst ys)/\ys=(List.replicate n true).map V.bl) ⟨aC hD,ah,rfl⟩ (λn H' ys p=>p.2.1) (λn H' ys hn p=>?_) (λH' ys p=>?_)
 ·obtain⟨Sm,hd,rfl⟩:=p;refine aw ⟨trivial,i_yes (b9 ?_)⟩;refine i_op (aY rfl (i_c ⟨_,rfl,rfl,?_⟩));refine dQ.mk hd hn (by rw[Qc,List.length_replicate];have:z.cps.size=z.length:=rfl;omega) ⟨bK Sm hD,ah,?_⟩
  have hc:PyProof.Rows.KTD.inKeys (⟨#[z.cps.getD n 0]⟩:Str) [(("0" : Str),PyProof.Rows.KTD.Dat.flat (PyData.str "1")),("1", .flat (.str "0"))]=true:=by
   have:z.cps.getD n 0=48\/z.cps.getD n 0=49:=by
    have e:z.cps.getD n 0=z.cps[n]:=by simp[Array.getD,hn]
    rw[e];exact st.signs _ (by simp)
   rcases this with e|e
   ·rw[e];decide +kernel
   rw[e];decide +kernel
  rw[List.replicate_succ',QI];exact congrArg (λb=>List.map V.bl (List.replicate n true)++[V.bl b]) hc
 obtain⟨Sm,hd,rfl⟩:=p;refine bf ⟨_,_,rfl,SqL.of hd,?_⟩;have e:(List.replicate z.cps.size true).all id=true:=by simp
 rw[e];exact k H' Sm
theorem k9:FnScope ["thing"] ["thing"] (av (top 6)):=by fin2
theorem sF (Fu:Fun K "is_whole" "is_whole" (top 6) f fd) (T:Txt K mg TT):FnOk P w K mg base CX0 1 f fd ["thing"] n9:=by
 have S:=k9;refine Fu.ok S (by room) (λcdv A outer s H vs Q E hr h=>?_);obtain⟨i,rfl,q⟩:=h;refine⟨_,(aI (aD (dg (am bp (by rfl) T.n_isinstance Q0 (aa (pv 0) (aa (cE (v:=.ty "int") (by rfl) T.n_int XA rfl) ac ad) ad)) (dD (wO (am bp (by rfl) T.n_isinstance Q0 (aa (pv 0) (aa (cE (v:=.ty "bool") (by rfl) T.n_bool PyProof.Rows.boot_bool rfl) ac ad) ad))))))),?_⟩;x_go;lk;refine⟨_,_,_,_,rfl,TyOf.int i,cu "int", _,rfl,b9 ?_⟩;lk;exact⟨_,_,_,_,rfl,TyOf.int i,w_,_,rfl,q⟩
theorem eW:FnScope ["thing", "bound"] ["thing", "bound"] (av (top 7)):=by fin2
theorem sN (Fu:Fun K "is_number_below" "is_number_below" (top 7) f fd) (T:Txt K mg TT) (f_is_whole:Fn P w K mg base "is_whole" ["thing"] 1 n9):FnOk P w K mg base CX0 2 f fd ["thing", "bound"] oq:=by
 have S:=eW;refine Fu.ok S (by room) (λcdv A outer s H vs Q E hr h=>?_);obtain⟨i,n,rfl,q⟩:=h;refine⟨_,(aI (aD (dg (aJ f_is_whole hr (aa (pv 0) ac ad)) (dD (sm oQ oP ae (pv 0) (pv 1)))))),?_⟩;x_go;lk;refine⟨i,rfl,_,rfl,b9 ?_⟩;refine pj ?_;lk;by_cases c:0<=i
 ·refine ifT (QA c) ?_;lk;have e:decide (0<=i/\i<n)=decide (i<n):=by simp[c]
  rw[e]at q;exact q
 refine ifF (Qy c) ?_;have e:decide (0<=i/\i<n)=false:=Qy λh=>c h.1;rw[e]at q;exact q
end
def tkA (a:Arc):ax:=[.inr (ku a.one),.inr (ku a.two),.inl (.inl a.mark)]
theorem kI {x y:Arc} (h:Tm.flat (tkA x)=Tm.flat (tkA y)):x=y:=by
 have h:([Sum.inr x.one.1,Sum.inr x.one.2,Sum.inr x.two.1,Sum.inr x.two.2,Sum.inl x.mark]:List Key)=[Sum.inr y.one.1,Sum.inr y.one.2,Sum.inr y.two.1,Sum.inr y.two.2,Sum.inl y.mark]:=h;simp only[List.cons.injEq,Sum.inr.injEq,Sum.inl.injEq,and_true]at h;obtain⟨h1,h2,h3,h4,h5⟩:=h;cases x;cases y;simp only[Arc.mk.injEq];exact⟨Prod.ext h1 h2,Prod.ext h3 h4,h5⟩
theorem ArA.tk {a:Arc} (h:ArA H (.ref b) a):bH H (tkA a) b:=by
 obtain⟨_,v1,v2,e,q,⟨c,e1,h1⟩,d,e2,h2⟩:=h;cases e;subst e1 e2;exact⟨_,q,.cons ⟨c,rfl,h1⟩ (.cons ⟨d,rfl,h2⟩ (.cons rfl .nil))⟩
theorem ArA.of {a:Arc} (h:bH H (tkA a) b):ArA H (.ref b) a:=by
 obtain⟨vs,q,pr⟩:=h
 cases pr with
 | cons r1 pr=>cases pr with
  | cons r2 pr=>cases pr with
   | cons r3 pr =>
    cases pr;obtain⟨c,e1,h1⟩:=r1;obtain⟨d,e2,h2⟩:=r2;cases r3;subst e1 e2;exact⟨b,_,_,rfl,q,⟨c,rfl,h1⟩,d,rfl,h2⟩
theorem xA (h:Paired (ArA H) vs as):∃bs:A3,vs=bs.map V.ref/\KsA H bs (as.map tkA):=by
 induction h with
 | nil=>exact⟨[],rfl,.nil⟩
 | @cons v t _ _ r _ ih =>
 obtain⟨bs,e,p⟩:=ih;obtain⟨b,_,_,e1,_⟩:=id r;subst e1;exact⟨b::bs,by rw[e];rfl,.cons r.tk p⟩
theorem w9 {bs:A3} (h:KsA H bs ks) (hk:∀k∈ks,∃t,k=tkA t):∃as:List Arc,ks=as.map tkA/\Paired (ArA H) (bs.map V.ref) as:=by
 induction h with
 | nil=>exact⟨[],rfl,.nil⟩
 | @cons b k _ _ r _ ih =>
 obtain⟨ts,e,p⟩:=ih λk hk'=>hk k (Qu _ hk');obtain⟨t,rfl⟩:=hk k (by simp);exact⟨t::ts,by rw[e];rfl,.cons (ArA.of r) p⟩
theorem um (as:List Arc):rb false (as.map tkA):=by
 refine⟨λx hx y hy=>?_,λx hx=>?_⟩
 ·obtain⟨t,_,rfl⟩:=Qm.mp hx;obtain⟨u,_,rfl⟩:=Qm.mp hy;rfl
 obtain⟨t,_,rfl⟩:=Qm.mp hx;exact⟨_,_,rfl⟩
theorem wL {ps:List Pr} (h:Paired (PrA H) vs ps):∃bs:A3,vs=bs.map V.ref/\KsA H bs (ps.map tkR):=by
 induction h with
 | nil=>exact⟨[],rfl,.nil⟩
 | @cons v t _ _ r _ ih =>
 obtain⟨bs,e,p⟩:=ih;obtain⟨b,_,_,e1,_⟩:=id r;subst e1;exact⟨b::bs,by rw[e];rfl,.cons r.tk p⟩
theorem lh {f:α->β} (inj:∀{x y},f x=f y->x=y) {xs ys:List α} (h:(xs.map f).Perm (ys.map f)):xs.Perm ys:=by
 obtain⟨zs,pz,ez⟩:∃zs:List α,zs.Perm ys/\zs.map f=xs.map f:=perm_lift h
 have:zs=xs:=by
  have go:∀(as bs:List α),as.map f=bs.map f->as=bs:=λas=>by
   induction as with
   | nil=>intro bs e;cases bs with
    | nil=>rfl
    | cons b bs=>cases e
   | cons a as ih=>intro bs e;cases bs with
    | nil=>cases e
    | cons b bs =>
     rw[Qt,Qt]at e;injection e with e1 e2;rw[inj e1,ih bs e2]
  exact go _ _ ez
 rw[<-this];exact pz
where
 perm_lift {α β:Type} {f:α->β} {us:List β} {ys:List α} (h:us.Perm (ys.map f)):∃zs:List α,zs.Perm ys/\zs.map f=us:=by
  generalize e:ys.map f=vs at h
  induction h generalizing ys with
  | nil=>cases ys with
   | nil=>exact⟨[],.refl _,rfl⟩
   | cons y ys=>cases e
  | cons x _ ih=>cases ys with
   | nil=>cases e
   | cons y ys =>
    rw[Qt]at e;injection e with e1 e2;obtain⟨zs,p,q⟩:=ih e2;exact⟨y::zs,p.cons y,by rw[Qt,q,e1]⟩
  | swap x y l=>cases ys with
   | nil=>cases e
   | cons a ys=>cases ys with
    | nil=>cases e
    | cons b ys =>
     rw[Qt,Qt]at e;injection e with e1 e2;injection e2 with e2 e3;exact⟨b::a::ys,List.Perm.swap ..,by rw[Qt,Qt,e1,e2,e3]⟩
  | trans _ _ ih1 ih2 =>
  obtain⟨zs,p,q⟩:=ih2 e;obtain⟨ws,p',q'⟩:=ih1 q;exact⟨ws,p'.trans p,q'⟩
theorem gv {K:PySem.W.Frag} (hl:H l=some (.lst vs)) (pa:Paired (ArA H) vs as) (few:as.length<64) (q:∀p vs' (as':List Arc),H p=none->Paired (ArA H) vs' as'->as'.Perm as->(as'.map tkA).Pairwise leF->Q (.ref p) (upd H p (.lst vs'))):mS K [.ref l] H Q:=by
 obtain⟨bs,rfl,ka⟩:=xA pa;refine⟨l,_,false,rfl,.inl ⟨bs,SqL.of hl,ka⟩,um as,by rw[Qc];exact few,λp bs' ks' hp ka' pm so=>?_⟩;obtain⟨as',rfl,pa'⟩:=w9 ka' λk hk=>by obtain⟨t,_,e⟩:=Qm.mp (pm.mem_iff.mp hk);exact⟨t,e.symm⟩
 exact q p _ as' hp pa' (lh (λ{x y} e=>kI (by rw[e])) pm) so
theorem mM (h:(as.map tkA).Pairwise leF) (h':(as'.map tkA).Pairwise leF) (pm:as'.Perm as):as'=as :=
 List.Perm.eq_of_pairwise (le:=λx y=>leF (tkA x) (tkA y)) (λ_ _ _ _ h g=>kI (Tm.h_ h g)) (QN.mp h') (QN.mp h) pm
theorem wY (h:NmL z):Low z:=⟨h.pos,h.l8,h.lw⟩
theorem xN {K:PySem.W.Frag} {tl:TE} {R:It->Hp->Prop} (q:tl U H λx H1=>∃a,x=.ref a/\(∃xs,SqT K H1 a xs)/\R (Itt K a) H1):yn K tl U H R:=q
theorem mj (n:Nat):(List.replicate n true).all id=true:=by simp
def og:Sp:=λvs H Q _=>∃(v:V) (l:Addr) (ws:List Str) (t:Tu),vs=[v,.ref l]/\TuA H v t/\H l=some (.lst (ws.map V.str))/\bt ws t/\Q (.bl true) H
def vN:Sp:=λvs H Q _=>∃(v:V) (l:Addr) (ws:List Str) (a:Arc),vs=[v,.ref l]/\ArA H v a/\H l=some (.lst (ws.map V.str))/\ArOk ws a/\Q (.bl true) H
def ou:Sp:=λvs H Q _=>∃(l lw:Addr) (as:List V) (r:Rg),vs=[.ref l,.ref lw]/\ArsA H l as r.arcs/\H lw=some (.lst (r.ws.map V.str))/\RgOk r/\ua r/\RgX r/\(r.arcs.map tkA).Pairwise leF/\∀H',ak H H'->Q (.bl true) H'
def oh:Sp:=λvs H Q _=>∃(a li lo l:Addr) (as:List V) (r:Rg),vs=[.ref a]/\RgA H a li lo l as r/\RgOk r/\RgX r/\∀H',ak H H'->Q (.bl true) H'
def kO:Sp:=λvs H Q _=>∃(a li lo l:Addr) (as:List V) (r:Rg),vs=[.ref a]/\RgA H a li lo l as r/\RgOk r/\ua r/\RgX r/\(r.arcs.map tkA).Pairwise leF/\∀H',ak H H'->Q (.bl true) H'
theorem qO {K:PySem.W.Frag} (q:ta U H λvs H1=>∃ks:List ax,iA K H1 vs ks/\∀us:List ax,us.Nodup->(∀x,x∈us↔x∈ks)->Q (.int us.length) H1):kJ K ta U H Q:=q
theorem t5 {ws:List Str} (h:ws.Nodup):(cx ws).Nodup:=by
 unfold cx;rw[List.nodup_append];refine⟨QN.mpr (h.imp λn e=>n (Prod.mk.inj e).1),QN.mpr (h.imp λn e=>n (Prod.mk.inj e).1),λa ha b hb e=>?_⟩;obtain⟨x,_,rfl⟩:=Qm.mp ha;obtain⟨y,_,rfl⟩:=Qm.mp hb;exact absurd (Prod.mk.inj e).2 (by decide +kernel)
section
theorem f_:FnScope ["thing", "wires"] ["thing", "wires"] (av (top 18)):=by fin2
variable {fd:FuncData} {f:Addr}
theorem sH (Fu:Fun K "is_ring_turn" "is_ring_turn" (top 18) f fd) (T:Txt K mg TT) (f_is_pair:Fn P w K mg base "is_pair" ["thing"] 1 rH):FnOk P w K mg base CX0 2 f fd ["thing", "wires"] og:=by
 have S:=f_;refine Fu.ok S (by room) (λcdv A outer s H vs Q E hr h=>?_);obtain⟨v,l,ws,t,rfl,⟨b,rfl,hb⟩,hl,ok,q⟩:=h;obtain⟨SA,tS1,tS2⟩:=T.sA
 refine⟨_,(aK (ps_if (PW.pt (dW (ci (ca (aJ f_is_pair hr (aa (pv 0) ac ad)))) (dW (ci (ca (am bp (by rfl) T.n_isinstance Q0 (aa (aj au (pv 0) ae) (aa (cE (v:=.ty "str") (by rfl) T.n_str PyProof.Rows.boot_str rfl) ac ad))))) (dC (ci (ca (am bp (by rfl) T.n_isinstance Q0 (aa (aj au (pv 0) ae) (aa (cE (v:=.ty "str") (by rfl) T.n_str PyProof.Rows.boot_str rfl) ac ad))))))))) (aI (aD c9)) pss_nil)
  (aI (aD (dg (bj fJ (aj au (pv 0) ae) (pv 1) rfl) (dD (bj (iY tS2) (aj au (pv 0) ae) (c8 (v:=.ref SA) (by rfl) tS1 rfl) rfl)))))),?_⟩
 x_go;lk;refine⟨b,_,rfl,hb,by simp,_,rfl,iteF ?_⟩;lk;refine⟨_,_,_,_,rfl,TyOf.str t.1,cu "str", _,rfl,iteF ?_⟩;lk;refine⟨_,_,_,_,rfl,TyOf.str t.2,cu "str", _,rfl,iteF ?_⟩;lk;refine⟨l,_,rfl,.inl (SqL.of hl),rfl,fR ws,_,rfl,?_⟩;refine ifT (gk.mpr ok.1) ?_;lk;refine⟨rfl,Eq.mp (congrArg (λb=>Q (.bl b) H) (?_:true=_)) q⟩;rcases ok.2 with e|e <;> rw[e] <;> decide +kernel
theorem p9:FnScope ["thing", "wires"] ["thing", "wires"] (av (top 19)):=by fin2
theorem wW (Fu:Fun K "is_arc" "is_arc" (top 19) f fd) (T:Txt K mg TT) (f_is_ring_turn:Fn P w K mg base "is_ring_turn" ["thing", "wires"] 2 og) (f_is_number_below:Fn P w K mg base "is_number_below" ["thing", "bound"] 2 oq):FnOk P w K mg base CX0 3 f fd ["thing", "wires"] vN:=by
 have S:=p9;refine Fu.ok S (by room) (λcdv A outer s H vs Q E hr h=>?_);obtain⟨v,l,ws,a,rfl,⟨b,v1,v2,rfl,hb,t1,t2⟩,hl,ok,q⟩:=h
 refine⟨_,(aK (ps_if (PW.pt (dW (ci (ca (am bp (by rfl) T.n_isinstance Q0 (aa (pv 0) (aa (cE (v:=.ty "tuple") (by rfl) T.n_tuple PyProof.Rows.boot_tuple rfl) ac ad) ad)))) (dC (aG iX (am ay (by rfl) T.n_len QJ (aa (pv 0) ac ad)) ae (aF _))))) (aI (aD c9)) pss_nil)
  (aK (ps_if (PW.pt (dW (ci (ca (aJ f_is_ring_turn hr (aa (aj au (pv 0) ae) (aa (pv 1) ac ad))))) (dC (ci (ca (aJ f_is_ring_turn hr (aa (aj au (pv 0) ae) (aa (pv 1) ac ad)))))))) (aI (aD c9)) pss_nil)
  (aI (aD (dg (bj (jG hr.units) (aj au (pv 0) ae) (aj au (pv 0) ae) (aF _)) (dD (aJ f_is_number_below hr (aa (aj au (pv 0) ae) (aa ae ac aQ))))))))),?_⟩
 x_go;lk;refine⟨_,_,_,_,rfl,TyOf.tup hb,cu "tuple", _,rfl,iteF ?_⟩;lk;refine⟨b,_,rfl,.inr (SqT.of hb),?_⟩;lk;refine ifF rfl ?_;lk;refine⟨_,l,ws,_,rfl,t1,hl,ok.o,_,rfl,iteF ?_⟩;lk;refine⟨_,l,ws,_,rfl,t2,hl,ok.t,_,rfl,?_⟩;refine ifF rfl ?_;lk;refine eY (neg:=true) t1 t2 ?_;refine⟨_,rfl,ifT (by rw[Qs rfl,Qy ok.ne];rfl) ?_⟩;lk;refine⟨_,_,rfl,?_⟩;rw[QA (show 0<=a.mark/\a.mark<2 by have:=ok.m;omega)];exact q
theorem k_:FnScope ["things", "wires", "pairs"] ["things", "wires"] (av (top 21)):=by fin2
theorem sO (Fu:Fun K "are_arcs" "are_arcs" (top 21) f fd) (T:Txt K mg TT) (f_is_arc:Fn P w K mg base "is_arc" ["thing", "wires"] 3 vN) (f_waiting_turns:Fn P w K mg base "waiting_turns" ["arcs"] 2 mL):FnOk P w K mg base CX0 4 f fd ["things", "wires"] ou:=by
 have S:=k_;refine Fu.ok S (by room) (λcdv A outer s H vs Q E hr h=>?_);obtain⟨l,lw,as,r,rfl,at_,hl,ok,full,rx,so,q⟩:=h;have hu:=cY hr;refine'⟨?_,?bb,?_⟩
 case bb =>
  walk_at "b";exact(PW.pt (dW (ci (ca (am (dA rfl) (by rfl) T.n_all PyProof.Rows.boot_all (aa (c7 "thing" [("wires", 1)] (aZ (pv 0)) (λ_ _ _ _=>(aJ f_is_arc hr (aa (pv 0) (aa (pv 1) ac ad) ad)))) ac)))) (dC (aG (gU hr.units) (pv 0) (am (cZ rfl hu) (by rfl) T.n_sorted Xd (aa (pv 0) ac ad)) (aF _)))));exact(aD c9);exact(lg (j:=2) S.nd rfl (by z_go) (tgs:=["arc"]) (cap:=[]) rfl ⟨rfl,rfl,rfl,rfl,rfl,rfl⟩ (aZ (pv 0)) (λ_ _ _ _=>(bi (i:=0) (show List.Nodup [("arc" : Str)] by decide +kernel) rfl (by z_go))) (λ_ _ _ _=>cI) (λ_ _ _ _=>(be (aa (aj (bP (K:=K) rfl) (pv 0) ae) (aa (aj (bP (K:=K) rfl) (pv 0) ae) ac)))));exact(aD (dg (bj cJ (mV rfl hu (by rfl) T.n_len (by rfl) T.n_set (aa (pv 2) ac ad)) (am ay (by rfl) T.n_len QJ (aa (pv 2) ac ad)) (aF _)) (dD (bj cJ (am ay (by rfl) T.n_len QJ (aa (aJ f_waiting_turns hr (aa (pv 0) ac ad)) ac aP)) (aM dE ae (am ay (by rfl) T.n_len QJ (aa (pv 1) ac ad))) (aF _)))))
 x_go;lk;refine bx (s_list (aY rfl ⟨l,rfl,⟨_,SqL.of at_.h⟩,λD hD=>?_⟩));refine cv (λ_=>true) (λH v (a:Arc)=>v=.bl true) hD at_.h at_.p (QK ok.few (by decide)) (λH H' v x k h=>h) (λv x H' ia mx S' G N hG _=>?_) (λH1 ys S1 hy p=>?_)
 ·refine aw ⟨⟨rfl,trivial⟩,i_yes (b9 ?_)⟩;lk;refine⟨_,lw,r.ws,x,rfl,ia.kt (ak.tups S'),S' _ _ hl,ok.arcs x mx,?_⟩;exact hG rfl _ H' (ak.refl _) rfl
 rw[bB]at p
 have ey:ys=(List.replicate r.arcs.length true).map V.bl:=by
  rw[cQ p,List.map_replicate,List.map_const']
 refine bf ⟨D,_,rfl,SqL.of (by rw[<-ey];exact hy),_,rfl,?_⟩;have eb:(!(List.replicate r.arcs.length true).all id)=false:=by rw[mj];rfl
 rw[eb];have l1:=S1 _ _ at_.h;have at1:=at_.same S1;lk;refine gv l1 at1.p rx.few λp2 vs2 as2 hp2 pa2 pm2 so2=>?_;have e2:=mM so so2 pm2;subst e2;ctx_has H1 p2 H2 S2 q2 ag hp2;have at2:=at1.same S2;have pa2:=af (λ_ _ h=>ArA.kt (ak.tups S2) h) pa2;refine tH (SqL.of at2.h) (SqL.of q2) (by rw[ar at2.p,ar pa2]) (λj x y ex ey=>?_) ?_
 ·obtain⟨a1,g1,t1⟩:=paired_get at2.p ex;obtain⟨a2,g2,t2⟩:=paired_get pa2 ey;rw[g1]at g2;cases g2;obtain⟨b1,_,_,rfl,_⟩:=id t1;obtain⟨b2,_,_,rfl,_⟩:=id t2;have:=tN (K:=K) (n:=6) t1.tk t2.tk rfl;rwa [QA rfl]at this
 refine⟨_,rfl,ifF rfl ?_⟩;have l2:=at2.h;lk;refine bx (s_list (aY rfl ⟨l,rfl,⟨_,SqL.of l2⟩,λD2 hD2=>?_⟩));refine cv (λ_=>true) (λH v (a:Arc)=>PrA H v (prA a)) hD2 l2 at2.p (QK ok.few (by decide)) (λH H' v x k h=>h.kt k) (λv x H' ia mx S' G N hG _=>?_) (λH3 ys S3 hy p=>?_)
 ·obtain⟨b,v1,v2,rfl,hb,t1,t2⟩:=ia.kt (ak.tups S');refine aw ⟨trivial,i_yes (b9 ?_)⟩;lk;refine⟨by simp[sizeLine],λp1 h1=>?_⟩;have S4:=aC (o:=.tup [v1,v2]) h1;exact hG rfl _ _ S4 ⟨p1,_,_,rfl,ah,t1.kt (ak.tups S4),t2.kt (ak.tups S4)⟩
 rw[bB]at p;have p:=bw (f:=prA) p;have lp:=ar p;obtain⟨bs,eb,ka⟩:=wL p;subst eb;rw[Qc,Qc]at lp;have at3:=at2.same S3;have hl3:=S3 _ _ (S2 _ _ (S1 _ _ hl));have l3:=at3.h;refine aw ?_;lk;have ndk:((r.arcs.map prA).map tkR).Nodup:=QN.mpr (List.Pairwise.imp (λh e=>h (gf e)) (show (r.arcs.map prA).Nodup from rx.nd));refine qO (i_cons (aY rfl (bf ⟨_,⟨D2,bs,rfl,SqL.of hy,ka,λk hk=>?_,λus nd h=>?_⟩,λus nd mm=>?_⟩)))
 ·obtain⟨t,_,rfl⟩:=Qm.mp hk;rfl
 ·have:=Bf.pigeon us _ nd h;rw[Qc,Qc]at this;have:=rx.few;omega
 have lus:us.length=r.arcs.length:=by
  have a1:=Bf.pigeon us _ nd λx hx=>(mm x).mp hx;have a2:=Bf.pigeon _ us ndk λx hx=>(mm x).mpr hx;rw[Qc,Qc]at a1 a2;omega
 lk;rw[Qc];refine ifT (QA (by rw[lus,lp])) ?_;lk;refine⟨l,as,r,rfl,at3,ok,λp5 vs5 ts H5 S5 hp5 hq5 pt5 wt=>?_⟩
 have lts:vs5.length=2*r.ws.length:=by
  rw[ar pt5];have a1:=Bf.pigeon ts (cx r.ws) wt.nd λx hx=>cC.mpr (Wt.ok ok wt hx);have a2:=Bf.pigeon (cx r.ws) ts (t5 ok.nd) λx hx=>(wt.mem x).mpr (full x (cC.mp hx));have e:(cx r.ws).length=2*r.ws.length:=by unfold cx;rw[Qh,Qc,Qc];omega
  omega
 have hl5:=S5 _ _ hl3;have w5:=ok.w5;lk;rw[Qc,lts,QA (show V.int ((2*r.ws.length:Nat):Int)=V.int (2*(r.ws.length:Int)) by rw[Int.natCast_mul];rfl)];exact q H5 (((S1.trans S2).trans S3).trans S5)
theorem jD:FnScope ["thing", "wires"] ["thing"] (av (top 13)):=by fin2
theorem qm (Fu:Fun K "has_wires" "has_wires" (top 13) f fd) (T:Txt K mg TT) (f_are_unlike_names:Fn P w K mg base "are_unlike_names" ["things"] 2 kM) (f_is_row:Fn P w K mg base "is_row" ["thing", "many"] 1 vI):FnOk P w K mg base CX0 3 f fd ["thing"] oh:=by
 have S:=jD;refine Fu.ok S (by room) (λcdv A outer s H vs Q E hr h=>?_);obtain⟨a,li,lo,ln,as,sh,rfl,at_,ok,fr,q⟩:=h
 refine⟨_,(aK (ps_if (PW.pt (dW (ci (ca (am bp (by rfl) T.n_isinstance Q0 (aa (pv 0) (aa (cE (v:=.ty "tuple") (by rfl) T.n_tuple PyProof.Rows.boot_tuple rfl) ac ad) ad)))) (dC (aG iX (am ay (by rfl) T.n_len QJ (aa (pv 0) ac ad)) ae (aF _))))) (aI (aD c9)) pss_nil)
  (aK (ps_if (ci (ca (am (dA rfl) (by rfl) T.n_all PyProof.Rows.boot_all (aa (c7 "place" [("thing", 0)] (wM (be (aa ae (aa ae (aa ae ac aQ) aQ) aQ))) (λ_ _ _ _=>(am (j8 (K:=K) rfl) (by rfl) T.n_isinstance Q0 (aa (aj (bP (K:=K) rfl) (pv 1) (pv 0)) (aa (cE (v:=.ty "list") (by rfl) T.n_list PyProof.Rows.boot_list rfl) ac ad))))) ac)))) (aI (aD c9)) pss_nil)
  (aK (aL 1 S.nd (aM dh (aj au (pv 0) ae) (aj au (pv 0) ae)))
  (aI (aD (dg (bj vT (am ay (by rfl) T.n_len QJ (aa (aj au (pv 0) ae) ac)) ae (aF _)) (dg (aJ f_are_unlike_names hr (aa (pv 1) ac ad)) (dD (aJ f_is_row hr (aa (aj au (pv 0) ae) (aa (am ay (by rfl) T.n_len QJ (aa (pv 1) ac ad)) ac aP))))))))))),?_⟩
 x_go;have ha:=at_.ha;have w11:sh.ws.length<=11:=QK ok.w5 (by decide);have o7:sh.outs.length<=7:=by have:=ok.w5;unfold Rg.ws at this;rw[Qh]at this;omega
 have i4:=fr.i4;have o1:=fr.o1;have lw:(sh.ins.map V.str).length+(sh.outs.map V.str).length=sh.ws.length:=by rw[Qc,Qc];unfold Rg.ws;rw[Qh]
 lk;refine⟨_,_,_,_,rfl,TyOf.tup ha,cu "tuple", _,rfl,iteF ?_⟩;lk;refine⟨a,_,rfl,.inr (SqT.of ha),?_⟩;lk;refine ifF rfl ?_;lk;refine bx (xN ?_);lk;refine⟨by simp[sizeLine],λp hp=>?_⟩;ctx_has H p H1 S1 q1 ag hp;have at1:=at_.same S1;refine⟨p,rfl,⟨_,SqT.of q1⟩,λL hL=>?_⟩;refine tV (xs:=[.int 0,.int 1,.int 3]) (λn H' ys=>ak H1 H'/\H' L=some (.lst ys)/\ys=(List.replicate n true).map V.bl) ⟨aC hL,ah,rfl⟩ (λn H' ys p=>⟨p.2.1,SqT.of (p.1 _ _ q1)⟩) (λn x H' ys e p=>?_) (λH2 ys p=>?_)
 ·obtain⟨Sm,hd,rfl⟩:=p;have hn:n<3:=by simpa using(Qf.mp e).1
  obtain⟨b,xs,eb,hb⟩:∃(b:Addr) (xs:List V),(∃j:Int,x=.int j/\atI [V.ref li,V.ref lo,V.str sh.z,V.ref ln] j=some (.ref b))/\H1 b=some (.lst xs):=by
   match n,e with
   | 0,e=>cases e;exact⟨li,_,⟨0,rfl,rfl⟩,at1.hi⟩
   | 1,e=>cases e;exact⟨lo,_,⟨1,rfl,rfl⟩,at1.ho⟩
   | 2,e=>cases e;exact⟨ln,_,⟨3,rfl,rfl⟩,at1.arcs.h⟩
  obtain⟨j,rfl,ej⟩:=eb;refine aw ⟨by repeat' (first|exact trivial|refine⟨rfl,?_⟩),i_yes (b9 ?_)⟩;refine i_cb (i_cons (i_op (aY rfl (aY rfl (i_ixT (Sm _ _ at1.ha) ej (i_cons (i_c (bf ?_))))))));refine⟨_,_,_,_,rfl,TyOf.lst (Sm _ _ hb),cu "list", ?_⟩;refine dQ.mk hd (by simpa using hn) (by rw[Qc,List.length_replicate];omega) ⟨bK Sm hL,ah,?_⟩;rw[List.replicate_succ',QI];rfl
 obtain⟨Sm,hd,rfl⟩:=p;refine bf ⟨_,_,rfl,SqL.of hd,_,rfl,?_⟩;refine ifF (by rw[mj];rfl) ?_;have at2:=at1.same Sm;have ha2:=at2.ha;lk;refine eM at2.hi at2.ho (by omega) λLw hLw=>?_;rw[<-QI];ctx_has H2 Lw H3 S3 q3 ag hLw;have q3:H3 Lw=some (.lst (sh.ws.map V.str)):=q3;have at3:=at2.same S3;have ha3:=at3.ha;have ho3:=at3.ho;lk;rw[Qc];refine ifT (QA (by omega)) ?_;lk;refine⟨Lw,_,rfl,q3,by omega,(λn h=>wY (fr.low n h)),λH4 S4=>?_⟩;have ha4:=S4 _ _ ha3;have q4:=S4 _ _ q3;refine⟨_,rfl,ifT (QA ok.nd) ?_⟩;lk;refine⟨_,sh.ws.length,by rw[Qc],w11,ok.st,λH5 S5=>?_⟩;exact q H5 (S1.trans (Sm.trans (S3.trans (S4.trans S5))))
theorem fE:FnScope ["thing", "wires"] ["thing"] (av (top 22)):=by fin2
theorem qr (Fu:Fun K "is_ring_sheet" "is_ring_sheet" (top 22) f fd) (T:Txt K mg TT) (f_has_wires:Fn P w K mg base "has_wires" ["thing"] 3 oh) (f_are_arcs:Fn P w K mg base "are_arcs" ["things", "wires"] 4 ou):FnOk P w K mg base CX0 5 f fd ["thing"] kO:=by
 have S:=fE;refine Fu.ok S (by room) (λcdv A outer s H vs Q E hr h=>?_);obtain⟨a,li,lo,l,as,r,rfl,at_,ok,full,rx,so,q⟩:=h;obtain⟨_,gMW⟩:=T.mWIRES
 refine⟨_,(aK (ps_if (ci (ca (aJ f_has_wires hr (aa (pv 0) ac ad)))) (aI (aD c9)) pss_nil)
  (aK (aL 1 S.nd (aM dh (aj au (pv 0) ae) (aj au (pv 0) ae)))
  (aI (aD (dg (bj oQ (am ay (by rfl) T.n_len QJ (aa (pv 1) ac ad)) (c8 (v:=.int 5) (by rfl) gMW ⟨_,rfl⟩) (aF _)) (dD (aJ f_are_arcs hr (aa (aj au (pv 0) ae) (aa (pv 1) ac ad))))))))),?_⟩
 x_go;have w5:=ok.w5;have lw:(r.ins.map V.str).length+(r.outs.map V.str).length=r.ws.length:=by rw[Qc,Qc];unfold Rg.ws;rw[Qh]
 have big:1000<sizeLine:=by decide
 lk;refine⟨a,li,lo,l,as,r,rfl,at_,ok,rx,λH1 S1=>⟨_,rfl,iteF ?_⟩⟩;have at1:=at_.same S1;have ha1:=at1.ha;lk;refine eM at1.hi at1.ho (by omega) λLw hLw=>?_;rw[<-QI];ctx_has H1 Lw H2 S2 q2 ag hLw;have q2:H2 Lw=some (.lst (r.ws.map V.str)):=q2;have at2:=at1.same S2;have ha2:=at2.ha;lk;rw[Qc];refine ifT (QA (by omega)) ?_;lk;refine⟨l,Lw,as,r,rfl,at2.arcs,q2,ok,full,rx,so,λH3 S3=>?_⟩;exact q H3 (S1.trans (S2.trans S3))
end
theorem dP {k:Key}:∀{qs kvs:List (Key × V)},k∉qs.map (·.1)->bC (bL kvs qs) k=bC kvs k
 | [],kvs,_=>rfl
 | q::qs,kvs,h=>by
  simp only[Qt,Qk,not_or]at h;show bC (bL (bI kvs q.1 q.2) qs) k=_;rw[dP h.2,fb,Qq h.1]
theorem dR {k:Key} {v:V}:∀{qs kvs:List (Key × V)},(qs.map (·.1)).Nodup->(k,v)∈qs->bC (bL kvs qs) k=some v
 | [],kvs,_,h=>nomatch h
 | q::qs,kvs,nd,h=>by
  rw[Qt,QS]at nd;show bC (bL (bI kvs q.1 q.2) qs) k=_;rcases Qk.mp h with e|h
  ·subst e;rw[dP nd.1,fb,Qs rfl]
  exact dR nd.2 h
theorem qv (h:ns.Nodup):(ns.map (Sum.inr:Str->Key)).Nodup:=by
 induction ns with
 | nil=>exact List.nodup_nil
 | cons a r ih =>
 rw[QS]at h;rw[Qt,QS];refine⟨λm=>?_,ih h.2⟩;obtain⟨x,hx,e⟩:=Qm.mp m;cases e;exact h.1 hx
def vA (kvs:List (Key × V)) (ws:List Str) (f:Str->Str):Prop:=∀n∈ws,bC kvs (Sum.inr n:Key)=some (.str (f n))
def piN (ws ms:List Str) (n:Str):Str:=ms.getD (ws.idxOf n) ""
theorem gN {ws:List Str} {n:Str} (hn:n∈ws) (hl:ws.length<=ms.length):∃h:ws.idxOf n<ms.length,piN ws ms n=ms[ws.idxOf n]:=by
 have h1:ws.idxOf n<ws.length:=List.idxOf_lt_length_iff.mpr hn;refine⟨by omega,?_⟩;unfold piN;rw[Qr,Qd (by omega)];rfl
theorem uv {ws:List Str} (nd:ms.Nodup) (hl:ws.length<=ms.length):∀a∈ws,∀b∈ws,piN ws ms a=piN ws ms b->a=b:=λa ha b hb e=>by
 obtain⟨h1,e1⟩:=gN ha hl;obtain⟨h2,e2⟩:=gN hb hl;rw[e1,e2]at e;have e3:=(List.getElem_inj nd).mp e;have i1:ws.idxOf a<ws.length:=List.idxOf_lt_length_iff.mpr ha;have i2:ws.idxOf b<ws.length:=List.idxOf_lt_length_iff.mpr hb;have g1:ws[ws.idxOf a]=a:=List.getElem_idxOf i1;have g2:ws[ws.idxOf b]=b:=List.getElem_idxOf i2;rw[<-g1,<-g2];congr 1
theorem oO {ws:List Str} (nd:ws.Nodup) (hl:ws.length<=ms.length):vA (bL [] (bA ws (ms.map V.str))) ws (piN ws ms):=λn hn=>by
 obtain⟨h1,e1⟩:=gN hn hl;have i1:ws.idxOf n<ws.length:=List.idxOf_lt_length_iff.mpr hn;refine dR ?_ ?_
 ·have e:(bA ws (ms.map V.str)).map (·.1)=ws.map Sum.inr:=by
   unfold bA;rw[Xm];have:((λx:Key × V=>x.1)∘λp:Str × V=>((Sum.inr p.1:Key),p.2))=(Sum.inr:Str->Key)∘Prod.fst:=rfl;rw[this,<-Xm,List.map_fst_zip (by rw[Qc];exact hl)]
  rw[e];exact qv nd
 unfold bA;refine Qm.mpr ⟨(n,.str (piN ws ms n)),?_,rfl⟩;refine List.mem_iff_getElem?.mpr ⟨ws.idxOf n,?_⟩;rw[Xy];refine⟨by rw[Qd i1,List.getElem_idxOf i1],?_⟩;rw[Qv,Qd h1,e1];rfl
theorem vZ {K:PySem.W.Frag} (q:ta U H λvs H1=>∃l m ns us,vs=[.ref l,.ref m]/\SqL K H1 l (ns.map V.str)/\SqL K H1 m us/\ns.length<=us.length/\ns.length<1000/\∀d,H1 d=none->Q (.ref d) (upd H1 d (.dK (bL [] (bA ns us))))):rs K ta U H Q:=q
section
open PySem.Spec PyProof.Rows
def di (ws ns:List Str) (g:Str->Str):Prop:=∃ws' ns':List Str,ws'.Perm ws/\ns'.Perm ns/\sortedS ws'=true/\sortedS ns'=true/\g=piN ws' ns'
variable {g h:Str->Str}
theorem di.det {ws ns:List Str} (a:di ws ns g) (b:di ws ns h):g=h:=by
 obtain⟨w1,n1,p1,q1,s1,t1,rfl⟩:=a;obtain⟨w2,n2,p2,q2,s2,t2,rfl⟩:=b;have e1:w1=w2:=List.Perm.eq_of_pairwise (le:=leS) (λ_ _ _ _ h g=>hZ h g) (cz s1) (cz s2) (p1.trans p2.symm);have e2:n1=n2:=List.Perm.eq_of_pairwise (le:=leS) (λ_ _ _ _ h g=>hZ h g) (cz t1) (cz t2) (q1.trans q2.symm);rw[e1,e2]
theorem di.inj {ws ns:List Str} (a:di ws ns g) (nd:ns.Nodup) (hl:ws.length=ns.length):∀x y,x∈ws->y∈ws->g x=g y->x=y:=λx y hx hy e=>by
 obtain⟨w1,n1,p1,q1,s1,t1,rfl⟩:=a;exact uv (q1.nodup_iff.mpr nd) (by rw[p1.length_eq,q1.length_eq];omega) x (p1.mem_iff.mpr hx) y (p1.mem_iff.mpr hy) e
theorem di.mono {ws ns:List Str} (a:di ws ns g) (hl:ws.length=ns.length):∀x y,x∈ws->y∈ws->leS x y->leS (g x) (g y):=λx y hx hy h=>by
 obtain⟨w1,n1,p1,q1,s1,t1,rfl⟩:=a;have hx:=p1.mem_iff.mpr hx;have hy:=p1.mem_iff.mpr hy;have hl:w1.length<=n1.length:=by rw[p1.length_eq,q1.length_eq];omega
 obtain⟨h1,e1⟩:=gN hx hl;obtain⟨h2,e2⟩:=gN hy hl;have ix:w1.idxOf x<w1.length:=QO hx;have iy:w1.idxOf y<w1.length:=QO hy;have gx:w1[w1.idxOf x]=x:=List.getElem_idxOf ix;have gy:w1[w1.idxOf y]=y:=List.getElem_idxOf iy;rw[e1,e2];rcases Nat.lt_trichotomy (w1.idxOf x) (w1.idxOf y) with c|c|c
 ·exact(List.pairwise_iff_getElem.mp (cz t1)) _ _ h1 h2 c
 ·have:x=y:=by rw[<-gx,<-gy];congr 1
  subst this;show ltCps _ _=false;rw[nu];simp
 have:=(List.pairwise_iff_getElem.mp (cz s1)) _ _ iy ix c;rw[gx,gy]at this;have e:=hZ h this;subst e;omega
end
theorem gm {K:PySem.W.Frag} {ws:List Str} {kvs:List (Key × V)} (hv:U[i]?=some (some (.ref q))) (hj:U[j]?=some (some (.ref d))) (hq:H q=some (.lst (ws.map V.str))) (hd:H d=some (.dK kvs)) (nm:∀n∈ws,bC kvs (Sum.inr n:Key)=some (.str (g n))) (few:ws.length<=100)
  (k:∀p H2,ak H H2->H2 p=some (.lst ((ws.map g).map V.str))->Q (.ref p) H2):fW (ig K (fA i)) (dw 0) eP (rz (fA 1) (fA 0)) (bu ["name"] [("lead", j)]) U H Q:=by
 have e:bu ["name"] [("lead", j)] U=[none,some (.ref d)]:=by show [none,U[j]?.join]=_;rw[hj];rfl
 refine bx (s_list (aY hv ⟨q,rfl,⟨_,SqL.of hq⟩,λD hD=>?_⟩));rw[e];refine cv (I:=λv n=>v=V.str n) (λ_=>true) (λH v (n:Str)=>v=V.str (g n)) hD hq (c_ ws) (by omega) (λH H' v x k h=>h) (λv x H2 ev mx S2 G N hG _=>?_) (λH6 y1 S6 hy1 py1=>?_)
 ·subst ev;refine aw ⟨⟨rfl,trivial⟩,i_yes (b9 ?_)⟩;refine aY rfl (aY rfl ⟨d,_,rfl,?_,hG rfl _ H2 (ak.refl _) rfl⟩);have z:=dj.k (k:=Sum.inr x) (S2 _ _ hd);rw[nm x mx]at z;exact z
 rw[bB]at py1;refine k D H6 S6 ?_;rw[hy1,cQ (f:=λn=>V.str (g n)) py1,Xm];rfl
def vJ (K:PySem.W.Frag):Sp:=λvs H Q _=>∃(a li lo l nl:Addr) (as:List V) (r:Rg) (ns:List Str),vs=[.ref a,.ref nl]/\RgA H a li lo l as r/\RgOk r/\RgX r/\H nl=some (.lst (ns.map V.str))/\r.ws.length=ns.length /\
 ∀a' li' lo' l' as' g ars H',ak H H'->di r.ws ns g->ars.Perm (r.arcs.map (cK (fN g)))->RgA H' a' li' lo' l' as' (rgN g r ars)->Q (.ref a') H'
section
theorem gD:FnScope ["ring", "names", "inputs", "outputs", "first", "arcs", "lead", "turned"] ["ring", "names"] (av (top 37)):=by fin2
theorem mX {f:Addr} {fd:FuncData} (Fu:Fun K "_law_renamed" "_law_renamed" (top 37) f fd) (T:Txt K mg TT):FnOk P w K mg base CX0 1 f fd ["ring", "names"] (vJ K):=by
 have S:=gD;refine Fu.ok S (by room) (λcdv A outer s H vs Q E hr h=>?_);obtain⟨a,li,lo,l,nl,as,r,ns,rfl,at_,ok,rx,hn,hln,k⟩:=h;have hu:=cY hr;refine'⟨?_,?bb,?_⟩
 case bb =>
  walk_at "b";exact(gK (pv 0) (dX rfl (aH (bz 2 S.nd) (aH (bz 3 S.nd) (aH (bz 4 S.nd) (aH (bz 5 S.nd) bT))))));exact aL 6 S.nd (lr rfl (by rfl) T.n_dict (by rfl) T.n_zip (aa (am de (by rfl) T.n_sorted Xd (aa (aM dh (pv 2) (pv 3)) ac)) (aa (am de (by rfl) T.n_sorted Xd (aa (pv 1) ac ad)) ac aP) aP));exact(lg (j:=7) S.nd rfl (by z_go) (tgs:=["one", "other", "mark"]) (cap:=[("lead", 6)]) rfl ⟨rfl,rfl,rfl,rfl,rfl,rfl⟩ (aZ (pv 5)) (λ_ _ _ _=>(fi (K:=K) (n:=3) rfl rfl (aH (bi (i:=0) (show List.Nodup [("one" : Str),("other" : Str),("mark" : Str),("lead" : Str)] by decide +kernel) rfl (by z_go)) (aH (bi (i:=1) (show List.Nodup [("one" : Str),("other" : Str),("mark" : Str),("lead" : Str)] by decide +kernel) rfl (by z_go)) (aH (bi (i:=2) (show List.Nodup [("one" : Str),("other" : Str),("mark" : Str),("lead" : Str)] by decide +kernel) rfl (by z_go)) bT))))) (λ_ _ _ _=>cI) (λ_ _ _ _=>(be (aa (be (aa (bU hu (pv 3) (aj (bP (K:=K) rfl) (pv 0) ae)) (aa (aj (bP (K:=K) rfl) (pv 0) ae) ac))) (aa (be (aa (bU hu (pv 3) (aj (bP (K:=K) rfl) (pv 1) ae)) (aa (aj (bP (K:=K) rfl) (pv 1) ae) ac))) (aa (pv 2) ac ad) se_tup) se_tup))));refine' aD ?e
  case e =>
   walk_at "q";exact(c7 "name" [("lead", 6)] (aZ (pv 2)) (λ_ _ _ _=>(bU hu (pv 1) (pv 0))));exact(c7 "name" [("lead", 6)] (aZ (pv 3)) (λ_ _ _ _=>(bU hu (pv 1) (pv 0))));exact(pv 4);exact(am (cZ rfl hu) (by rfl) T.n_sorted Xd (aa (pv 7) ac ad))
 x_go;have w5:=ok.w5;have lw:(r.ins.map V.str).length+(r.outs.map V.str).length=r.ws.length:=by rw[Qc,Qc];unfold Rg.ws;rw[Qh]
 have ha:=at_.ha;lk;refine⟨a,_,rfl,SqT.of ha,rfl,_,_,rfl,aw ⟨_,_,rfl,aw ⟨_,_,rfl,aw ⟨_,_,rfl,aw ⟨rfl,?_⟩⟩⟩⟩⟩;lk;refine vZ ?_;lk;refine eM at_.hi at_.ho (by omega) λLw hLw=>?_;rw[<-QI];ctx_has H Lw H1 S1 q1 ag hLw;have q1:H1 Lw=some (.lst (r.ws.map V.str)):=q1;have hn1:=S1 _ _ hn;refine⟨Lw,r.ws,rfl,q1,by omega,λp2 w2 hp2 pm2 so2=>?_⟩;ctx_has H1 p2 H2 S2 q2 ag hp2;have hn2:=S2 _ _ hn1;lk;refine⟨nl,ns,rfl,hn2,by omega,λp3 n3 hp3 pm3 so3=>?_⟩;ctx_has H2 p3 H3 S3 q3 ag hp3;have q23:=S3 _ _ q2;lk;refine⟨p2,p3,w2,_,rfl,SqL.of q23,SqL.of q3,by rw[Qc,pm2.length_eq,pm3.length_eq];omega,by rw[pm2.length_eq];omega,λd hd=>?_⟩;have ld:di r.ws ns (piN w2 n3):=⟨w2,n3,pm2,pm3,so2,so3,rfl⟩;have nmp:vA (bL [] (bA w2 (n3.map V.str))) r.ws (piN w2 n3):=λn h=>oO (pm2.nodup_iff.mpr ok.nd) (by rw[pm2.length_eq,pm3.length_eq];omega) n (pm2.mem_iff.mpr h);ctx_has H3 d H4 S4 q4 ag hd;generalize bL [] (bA w2 (n3.map V.str))=kvs at q4 nmp;generalize piN w2 n3=g at ld nmp;have S04:=(S1.trans (S2.trans S3)).trans S4;have at4:=at_.same S04;clear q23 q3 q2 hn2 hn1 q1;lk
 have dget:∀{H':Hp} {n:Str},ak H4 H'->n∈r.ws->dj H' d (.str n) (some (.str (g n))):=λ{H' n} S' hn=>by
  have z:=dj.k (k:=Sum.inr n) (S' _ _ q4);rw[nmp n hn]at z;exact z
 refine bx (s_list (aY rfl ⟨l,rfl,⟨_,SqL.of at4.arcs.h⟩,λD hD=>?_⟩));refine cv (λ_=>true) (λH v (a:Arc)=>ArA H v (cK (fN g) a)) hD at4.arcs.h at4.arcs.p (QK ok.few (by decide)) (λH H' v x k h=>h.kt k) (λv x H' ia mx S' G N hG _=>?_) (λH5 ys S5 hy p=>?_)
 ·obtain⟨b,v1,v2,rfl,hb,t1,t2⟩:=ia.kt (ak.tups S');obtain⟨b1,rfl,hb1⟩:=t1;obtain⟨b2,rfl,hb2⟩:=t2;have ao:=ok.arcs x mx;refine⟨b,_,rfl,SqT.of hb,rfl,_,_,rfl,aw ⟨_,_,rfl,aw ⟨_,_,rfl,aw ⟨rfl,⟨rfl,trivial⟩,i_yes (b9 ?_)⟩⟩⟩⟩;lk;refine⟨d,_,rfl,dget S' ao.o.1,?_⟩;lk;refine⟨by simp[sizeLine],λc1 hc1=>?_⟩;ctx_has H' c1 G1 T1 g1 ag hc1;have hb2':=T1 _ _ hb2;lk;refine⟨d,_,rfl,dget (S'.trans T1) ao.t.1,?_⟩;lk;refine⟨by simp[sizeLine],λc2 hc2=>?_⟩;ctx_has G1 c2 G2 T2 g2 ag hc2;lk;refine⟨by simp[sizeLine],λc3 hc3=>?_⟩;ctx_has G2 c3 G3 T3 g3 ag hc3;exact hG rfl _ _ ((T1.trans T2).trans T3) ⟨c3,_,_,rfl,g3,⟨c1,rfl,T3 _ _ (T2 _ _ g1)⟩,c2,rfl,T3 _ _ g2⟩
 rw[bB]at p;have p:=bw (f:=cK (fN g)) p;have at5:=at4.same S5;have q5:=S5 _ _ q4;lk;refine gm rfl rfl at5.hi q5 (λn h=>nmp n (Q1 _ h)) (by have:=Qh (as:=r.ins) (bs:=r.outs);unfold Rg.ws at w5;omega) λpi H6 S6 q6=>?_;have at6:=at5.same S6;have q46:=S6 _ _ q5;lk;refine gm rfl rfl at6.ho q46 (λn h=>nmp n (QC _ h)) (by have:=Qh (as:=r.ins) (bs:=r.outs);unfold Rg.ws at w5;omega) λpo H7 S7 q7=>?_;have S57:=S6.trans S7;have hy7:=S57 _ _ hy;have p7:=af (λ_ _ h=>ArA.kt (ak.tups S57) h) p;lk;refine gv hy7 p7 (by rw[Qc];exact rx.few) λps vs8 ars hps pars pm so=>?_;ctx_has H7 ps H8 S8 q8 ag hps;lk;refine⟨by simp[sizeLine],λa9 h9=>?_⟩;ctx_has H8 a9 H9 S9 q9 ag h9;have S89:=S8.trans S9;refine k a9 pi po ps vs8 g ars H9 (((S04.trans S5).trans S57).trans S89) ld pm ?_;exact⟨q9,S89 _ _ (S7 _ _ q6),S89 _ _ q7,S9 _ _ q8,af (λ_ _ h=>ArA.kt (ak.tups S89) h) pars⟩
end
theorem xm (st:StOk n z) (hi:i<n) (g:G (.str (bS z i)) H):(λ(xs:List V) (H:Hp) (Q:VK)=>∃z n,xs=[V.str z]/\PySem.intText? z=some n/\z.length<=640/\Q (V.int n) H) [V.str ⟨#[z.cps.getD i 0]⟩] H (λy H2=>wG (V.str "10") y H2 G):=by
 have sgns:z.cps.getD i 0=48\/z.cps.getD i 0=49:=by
  have hl:=st.len;have e:z.cps.getD i 0=z.cps[i]'(by omega):=by simp[Array.getD,hl,hi]
  rw[e];exact st.signs _ (by simp)
 have ef:bS z i=if (z.cps.getD i 0==49)=true then ("0" : Str) else ("1" : Str):=rfl;rcases sgns with e|e
 ·rw[e];rw[e]at ef;refine⟨_,0,rfl,by decide +kernel,by decide,?_⟩;refine⟨"10", 0,49,rfl,rfl,by decide,by decide +kernel,?_⟩;rw[show (⟨#[49]⟩:Str) = "1" by decide +kernel,show ("1" : Str)=bS z i from by rw[ef];rfl];exact g
 rw[e];rw[e]at ef;refine⟨_,1,rfl,by decide +kernel,by decide,?_⟩;refine⟨"10", 1,48,rfl,rfl,by decide,by decide +kernel,?_⟩;rw[show (⟨#[48]⟩:Str) = "0" by decide +kernel,show ("0" : Str)=bS z i from by rw[ef];rfl];exact g
def rL:Sp:=λvs H Q _=>∃(a li lo l:Addr) (as:List V) (r:Rg) (n:Str),vs=[.ref a,.str n]/\RgA H a li lo l as r/\RgOk r/\RgX r/\n∈r.ws /\
 ∀a' l' as' ars H',ak H H'->ars.Perm (r.arcs.map (cK (fF n)))->(ars.map tkA).Pairwise leF->RgA H' a' li lo l' as' (rgF n r ars)->Q (.ref a') H'
section
theorem gE:FnScope ["ring", "name", "inputs", "outputs", "first", "arcs", "at", "found", "one", "other", "mark", "pair", "turn"] ["ring", "name"] (av (top 38)):=by fin2
theorem lB {f:Addr} {fd:FuncData} (Fu:Fun K "_law_flipped" "_law_flipped" (top 38) f fd) (T:Txt K mg TT):FnOk P w K mg base CX0 1 f fd ["ring", "name"] rL:=by
 have S:=gE;refine Fu.ok S (by room) (λcdv A outer s H vs Q E hr h=>?_);obtain⟨a,li,lo,l,as,r,n,rfl,at_,ok,rx,hn,k⟩:=h;have hu:=cY hr;refine'⟨?_,?bb,?_⟩
 case bb =>
  walk_at "b";exact(gK (pv 0) (dX rfl (aH (bz 2 S.nd) (aH (bz 3 S.nd) (aH (bz 4 S.nd) (aH (bz 5 S.nd) bT))))));exact aL 6 S.nd (bR QE Xv Xw gY (aM dh (pv 2) (pv 3)) (aa (pv 1) ac ad));exact aL 7 S.nd (pe_lst ac);walk_at "f";exact(aZ (pv 5));exact(dX rfl (aH (bz 8 S.nd) (aH (bz 9 S.nd) (aH (bz 10 S.nd) bT))));walk_at "p";exact aL 11 S.nd (pe_lst ac);walk_at "f";exact(aZ (pe_lst (aa (pv 8) (aa (pv 9) ac ad) ad)));exact(bz 12 S.nd);walk_at "p";refine' cj (bR QE Q3 Q4 br (pv 11) ?a)
  case a =>
   walk_at "q";exact(aj aR (pe_lst (aa (pv 12) (aa (be (aa (pv 1) (aa (aj cX ba (bq cD (by rfl) T.n_int XA (aa (bj cJ (aj au (pv 12) ae) ba (aF _)) ac))) ac se_sub) ad)) ac se_tup) ad)) (bq cD (by rfl) T.n_int XA (aa (bj cJ (aj au (pv 12) ae) (pv 1) (aF _)) ac)))
  refine' cj (bR QE Q3 Q4 br (pv 7) ?a)
  case a =>
   walk_at "q";exact(aj aR (pv 11) ae);exact(aj aR (pv 11) ae);exact(pv 10)
  refine' aD ?e
  case e =>
   walk_at "q";exact(pv 2);exact(pv 3);exact(aM bM (aM bM (cq eV (pv 4) cP (cO (pv 6))) (aj cX ba (bq iJ (by rfl) T.n_int XA (aa (aj cX (pv 4) (pv 6)) ac)))) (cq eV (pv 4) (cO (aM cA (pv 6) ae)) cP));exact(am (cZ rfl hu) (by rfl) T.n_sorted Xd (aa (pv 7) ac ad))
 x_go;have w5:=ok.w5;have lw:(r.ins.map V.str).length+(r.outs.map V.str).length=r.ws.length:=by rw[Qc,Qc];unfold Rg.ws;rw[Qh]
 have ha:=at_.ha;have hk:=QO hn;lk;refine⟨a,_,rfl,SqT.of ha,rfl,_,_,rfl,aw ⟨_,_,rfl,aw ⟨_,_,rfl,aw ⟨_,_,rfl,aw ⟨rfl,?_⟩⟩⟩⟩⟩;lk;refine eM at_.hi at_.ho (by omega) λLw hLw=>?_;rw[<-QI];ctx_has H Lw H1 S1 q1 ag hLw;have q1:H1 Lw=some (.lst (r.ws.map V.str)):=q1;have at1:=at_.same S1;lk;refine⟨Lw,r.ws,n,r.ws.idxOf n,rfl,rfl,q1,ic hn,fP,by omega,?_⟩;lk;refine⟨by simp[sizeLine],λF hF=>?_⟩;ctx_has H1 F H2 S2 q2 ag hF;have at2:=at1.same S2;lk;refine⟨l,rfl,⟨_,SqL.of at2.arcs.h⟩,?_⟩;let I17:IvF:=λi U H'=>∃(y8 y9 y10 y11 y12:Option V) (fv:List V),U=[some (.ref a),some (.str n),some (.ref li),some (.ref lo),some (.str r.z),some (.ref l),some (.int (r.ws.idxOf n:Nat)),some (.ref F),y8,y9,y10,y11,y12]/\ak H1 H'/\H' F=some (.lst fv)/\Paired (ArA H') fv ((r.arcs.take i).map (cK (fF n)));refine dy (xs:=as) I17 ⟨_,_,_,_,_,[],rfl,S2,q2,by rw[List.take_zero];exact .nil⟩ (λi U H' _ ⟨_,_,_,_,_,_,_,S',_⟩=>SqL.of (S' _ _ at1.arcs.h)) (λi v U H' ev pv=>?_) (λU H' pv=>?_)
 ·obtain⟨y8,y9,y10,y11,y12,fv,rfl,S',qF,pf⟩:=pv;obtain⟨x,ex,xa⟩:=paired_get (at1.same S').arcs.p ev;have ao:=ok.arcs x (Ql ex);obtain⟨b,v1,v2,rfl,hb,t1,t2⟩:=id xa;have lf:=ar pf;rw[Qc,QM]at lf;have fw:=rx.few;refine⟨b,_,rfl,SqT.of hb,rfl,_,_,rfl,aw ⟨_,_,rfl,aw ⟨_,_,rfl,aw ⟨rfl,?_⟩⟩⟩⟩;lk;refine⟨by simp[sizeLine],λPp hPp=>?_⟩;ctx_has H' Pp G1 T1 g1 ag hPp;lk;refine⟨by simp[sizeLine],λL2 hL2=>?_⟩;ctx_has G1 L2 G2 T2 g2 ag hL2;have g12:=T2 _ _ g1;have T02:=T1.trans T2;have t1:=t1.kt (ak.tups T02);have t2:=t2.kt (ak.tups T02);have pt:Paired (TuA G2) [v1,v2] [x.one,x.two]:=.cons t1 (.cons t2 .nil);refine⟨L2,rfl,⟨_,SqL.of g2⟩,?_⟩;let I18:IvF:=λj U G=>∃(y12:Option V) (pv:List V),U=[some (.ref a),some (.str n),some (.ref li),some (.ref lo),some (.str r.z),some (.ref l),some (.int (r.ws.idxOf n:Nat)),some (.ref F),some v1,some v2,some (.int x.mark),some (.ref Pp),y12]/\ak H' G/\aX G2 G/\G L2=some (.lst [v1,v2])/\G Pp=some (.lst pv)/\Paired (TuA G) pv (([x.one,x.two].take j).map (fF n));refine dy (xs:=[v1,v2]) I18 ⟨_,[],rfl,T02,λ_ _ e=>e,g2,g12,.nil⟩ (λj U G _ ⟨_,_,_,_,_,h,_⟩=>SqL.of h) (λj v U G ev pv=>?_) (λU G pv=>?_)
  ·obtain⟨y12,pv,rfl,SG,kt,gL,gP,pp⟩:=pv;obtain⟨t,et,ta⟩:=paired_get pt ev;have ta:=ta.kt kt
   have to:bt r.ws t:=by
    have:=Ql et;simp only[Qk,Qx,Xg]at this;rcases this with rfl|rfl
    ·exact ao.o
    exact ao.t
   obtain⟨c,rfl,hc⟩:=id ta;have lp:=ar pp;refine aw ?_;lk;obtain⟨d,ed,ed2⟩:=sw to.2;refine eL (by decide) ed ?_;rw[ed2];lk;refine⟨by simp[sizeLine],λc1 h1=>?_⟩;ctx_has G c1 G3 T3 g3 ag h1;lk;refine⟨by simp[sizeLine],λc2 h2=>?_⟩;ctx_has G3 c2 G4 T4 g4 ag h2;have T34:=T3.trans T4;have hc4:=T34 _ _ hc;lk;have e1:decide (V.str t.1=V.str n)=decide (t.1=n):=decide_eq_decide.mpr ⟨λz=>V.str.inj z,λz=>by rw[z]⟩;rw[e1]
   have eA:atI [V.ref c,V.ref c1] (if decide (t.1=n)=true then 1 else 0)=some (if t.1=n then V.ref c1 else V.ref c):=by
    by_cases cc:t.1=n
    ·rw[QA cc,Qs cc];rfl
    rw[Qy cc,Qq cc];rfl
   refine i_ixL (v:=if t.1=n then V.ref c1 else V.ref c) (SqL.of g4) eA ?_
   have at4:TuA G4 (if t.1=n then .ref c1 else .ref c) (fF n t):=by
    by_cases cc:t.1=n
    ·rw[Qs cc,show fF n t=(t.1,gS t.2) from Qs cc,cc];exact⟨c1,rfl,T4 _ _ g3⟩
    rw[Qq cc,show fF n t=t from Qq cc];exact⟨c,rfl,hc4⟩
   generalize (if t.1=n then V.ref c1 else V.ref c)=vt at at4;have gP4:=T34 _ _ gP;have jl:j<2:=(Qf.mp ev).1;rw[Qc,QM]at lp;refine bf (d0 gP4 (by omega) ?_);have ku:=bO (o:=.lst (pv++[vt])) gP4;have nLP:L2≠Pp:=aE g1 hL2;refine⟨_,_,rfl,bK (SG.trans T34) hPp,λb ys e=>ku _ _ (ak.tups T34 _ _ (kt _ _ e)),by rw[aq nLP];exact T34 _ _ gL,ah,?_⟩;rw[List.take_succ,et,QI];exact aV (af (λ_ _ h=>TuA.kt ku (h.kt (ak.tups T34))) pp) (at4.kt ku)
  obtain⟨y12,pv,rfl,SG,kt,gL,gP,pp⟩:=pv;lk
  obtain⟨w1,w2,rfl⟩:∃w1 w2,pv=[w1,w2]:=by
   cases pp with
   | cons r1 pp=>cases pp with
    | cons r2 pp=>cases pp;exact⟨_,_,rfl⟩
  have p1:TuA G w1 (fF n x.one):=by cases pp with|cons r1 pp=>exact r1
  have p2:TuA G w2 (fF n x.two):=by cases pp with|cons r1 pp=>cases pp with|cons r2 pp=>exact r2
  have qFG:=SG _ _ qF;refine⟨i_tyL qFG,?_⟩;lk;refine⟨by simp[sizeLine],λc3 h3=>?_⟩;ctx_has G c3 G3 T3 g3 ag h3;have qF3:=T3 _ _ qFG;refine bf (d0 qF3 (by omega) ?_);have ku:=bO (o:=.lst (fv++[.ref c3])) qF3;refine⟨_,_,_,_,_,_,rfl,bK ((S'.trans SG).trans T3) hF,ah,?_⟩;rw[List.take_succ,ex,QI];exact aV (af (λ_ _ h=>ArA.kt ku (ArA.kt (ak.tups (SG.trans T3)) h)) pf) (ArA.kt ku ⟨c3,_,_,rfl,g3,p1.kt (ak.tups T3),p2.kt (ak.tups T3)⟩)
 obtain⟨y8,y9,y10,y11,y12,fv,rfl,S',qF,pf⟩:=pv;lk;rw[Xc (by rw[ar at_.arcs.p];exact Qj _)]at pf;have zl:r.z.length=r.ws.length:=ok.st.len;have s1:=Txt.slice_le r.z none (some ((r.ws.idxOf n:Nat):Int));have s2:=Txt.slice_le r.z (some (((r.ws.idxOf n:Nat):Int)+1)) none
 have fl:(bS r.z (r.ws.idxOf n)).length=1:=by
  unfold bS
  split
  ·decide +kernel
  decide +kernel
 have l1:(Txt.slice r.z none (some ((r.ws.idxOf n:Nat):Int))++bS r.z (r.ws.idxOf n)).length=(Txt.slice r.z none (some ((r.ws.idxOf n:Nat):Int))).length+(bS r.z (r.ws.idxOf n)).length:=Array.size_append;refine ie (by omega) ?_;refine i_op (i_c ?_);refine i_cb (i_cons (i_op (aY rfl (aY rfl (eL (by omega) (j_ ok.st hk) ?_)))));refine bf (xm ok.st hk ?_);refine⟨_,_,rfl,rfl,by omega,?_⟩;lk;refine ie (by omega) ?_;refine⟨_,_,rfl,rfl,by rw[l1];omega,?_⟩;lk;refine gv qF pf (by rw[Qc];exact rx.few) λps vs8 ars hps pars pm so=>?_;ctx_has H' ps H8 S8 q8 ag hps;lk;refine⟨by simp[sizeLine],λa9 h9=>?_⟩;ctx_has H8 a9 H9 S9 q9 ag h9;have S89:=S8.trans S9;have at9:=(at1.same S').same S89;refine k a9 ps vs8 ars H9 ((S1.trans S').trans S89) pm so ?_;exact⟨q9,at9.hi,at9.ho,S9 _ _ q8,af (λ_ _ h=>ArA.kt (ak.tups S9) (ArA.kt (ak.tups S8) h)) pars⟩
end
def ROk (ws:List Str):Res->Prop
 | .odd way w=>(∀t∈way,bt ws t)/\way.length<=50
 | .many=>True
 | .sheet nds=>nds.length<=40/\∀nd∈nds,nd.length<=10/\∀e∈nd,e.1∈ws
structure XOk (ws:List Str) (x:Sx):Prop where
 l:x.ws.length=x.ps.length
 m:x.ps.length<=40
 w:∀w∈x.ws,w.length<x.ws.length/\∀t∈w,bt ws t
theorem fM {r:Rg} {row:Str} {ws:List Str} {way:List Tu} (hw:∀t∈way,bt ws t):∀{ss:List Sp1} {x:Sx} {nd:Nd},(∀s∈ss,bt ws s.1)->XOk ws x->way.length<x.ws.length->(∀e∈nd,e.1∈ws) ->
  match bv r row way ss x nd with
   | .inl res=>ROk ws res
   | .inr (x',nd')=>XOk ws x'/\x.ps.length<=x'.ps.length/\nd'.length=nd.length+ss.length/\∀e∈nd',e.1∈ws
 | [],x,nd,hs,ox,hl,hn=>by unfold bv;exact⟨ox,Qj _,rfl,hn⟩
 | s::ss,x,nd,hs,ox,hl,hn=>by
  have so:=hs s (by simp);have hs':∀s∈ss,bt ws s.1:=λs h=>hs s (Qu _ h)
  have hw':∀t∈way++[s.1],bt ws t:=λt h=>by
   rcases Qw.mp h with h|h
   ·exact hw t h
   rw[QB.mp h];exact so
  have nd':∀k,∀e∈nd++[(s.1.1,k)],e.1∈ws:=λk e h=>by
   rcases Qw.mp h with h|h
   ·exact hn e h
   rw[QB.mp h];exact so.1
  have m:=ox.m;have l:=ox.l;unfold bv
  cases co:cV r row s with
  | some w=>exact⟨hw',by rw[Qh,QL];omega⟩
  | none =>
  dsimp only;by_cases c:s.2∈x.ps
  ·rw[Qs c];have ih:=fM hw hs' ox hl (nd' (x.ps.idxOf s.2)) (r:=r) (row:=row)
   cases e:bv r row way ss x (nd++[(s.1.1,x.ps.idxOf s.2)]) with
   | inl res=>rw[e]at ih;exact ih
   | inr y =>
   rw[e]at ih;obtain⟨h1,h2,h3,h4⟩:=ih;exact⟨h1,h2,by rw[h3,Qh,QL,Xh];omega,h4⟩
  rw[Qq c];by_cases c4:x.ps.length=40
  ·rw[Qs c4];exact trivial
  rw[Qq c4]
  have ox':XOk ws ⟨x.ps++[s.2],x.ws++[way++[s.1]]⟩:=by
   refine⟨by rw[Qh,Qh,l];rfl,by rw[Qh,QL];omega,λw h=>?_⟩;show w.length<(x.ws++[way++[s.1]]).length/\_;rw[Qh,QL];rcases Qw.mp h with h|h
   ·exact⟨by have:=(ox.w w h).1;omega,(ox.w w h).2⟩
   rw[QB.mp h,Qh,QL];exact⟨by omega,hw'⟩
  have ih:=fM hw hs' ox' (by show _<(x.ws++[way++[s.1]]).length;rw[Qh];omega) (nd' x.ps.length) (r:=r) (row:=row)
  cases e:bv r row way ss ⟨x.ps++[s.2],x.ws++[way++[s.1]]⟩ (nd++[(s.1.1,x.ps.length)]) with
  | inl res=>rw[e]at ih;exact ih
  | inr y =>
  rw[e]at ih;obtain⟨h1,h2,h3,h4⟩:=ih;refine⟨h1,?_,by rw[h3,Qh,QL,Xh];omega,h4⟩;have h2:(x.ps++[s.2]).length<=_:=h2;rw[Qh]at h2;omega
theorem iW {r:Rg} {ts:List Tu} {ws:List Str} (ht:∀t∈ts,bt ws t) (h10:ts.length<=10):∀{n:Nat} {x:Sx} {nds:List Nd},XOk ws x->nds.length<=x.ps.length->(∀nd∈nds,nd.length<=10/\∀e∈nd,e.1∈ws)->ROk ws (outer r ts n x nds)
 | 0,x,nds,ox,hl,hn=>by unfold outer;exact trivial
 | n+1,x,nds,ox,hl,hn=>by
  unfold outer;by_cases c:nds.length<x.ps.length
  ·rw[Qs c];have gw:=Sx.w_mem (x:=x) (i:=nds.length) (by rw[ox.l];exact c);obtain⟨w1,w2⟩:=ox.w _ (Ql gw)
   have ih:=fM (r:=r) (row:=(x.p nds.length).2) w2 (ss:=bh r ts (x.p nds.length)) (x:=x) (nd:=[]) (λs hs=>by
    obtain⟨t,h,_,rfl⟩:=d8 s hs
    exact ht t h) ox w1 λe h=>nomatch h
   cases e:bv r (x.p nds.length).2 (x.wy nds.length) (bh r ts (x.p nds.length)) x [] with
   | inl res=>rw[e]at ih;exact ih
   | inr y =>
   rw[e]at ih;obtain⟨h1,h2,h3,h4⟩:=ih;refine iW ht h10 h1 (by rw[Qh,QL];omega) λnd h=>?_;rcases Qw.mp h with h|h
   ·exact hn nd h
   rw[QB.mp h];refine⟨?_,h4⟩;rw[h3];unfold bh;rw[Qc];have:=List.length_filter_le (cW r.arcs (x.p nds.length).1) ts;simp only[List.length_nil];omega
  rw[Qq c];exact⟨by have:=ox.m;omega,hn⟩
theorem ue (ok:RgOk r) (wt:Wt r ts):ROk r.ws (unf r ts) :=
 iW (λt h=>Wt.ok ok wt h) (Wt.few ok wt) ⟨rfl,(by decide:1<=40),λw h=>by rw[QB.mp (show w∈[[]] from h)];exact⟨(by decide:0<1),λt h=>nomatch h⟩⟩ (QU _) λnd h=>nomatch h
noncomputable def iL (H:Hp) (v:V) (ins outs:List Str) (z:Str):Res->Prop
 | .odd way w=>∃a l,v=.ref a/\H a=some (.tup [.str "odd", .ref l,.str w])/\iK H l way
 | .many=>∃a,v=.ref a/\H a=some (.tup [.str "many"])
 | .sheet nds=>∃(a s li lo ln:Addr) (nas:A3),v=.ref a/\H a=some (.tup [.str "sheet", .ref s])/\H s=some (.tup [.ref li,.ref lo,.str z,.ref ln])/\H li=some (.lst (ins.map V.str))/\H lo=some (.lst (outs.map V.str))/\H ln=some (.lst (nas.map V.ref))/\Paired (dN H) nas nds
variable {res:Res}
theorem kr.e (h:kr H0 H v r res):iL H v r.ins r.outs r.z res:=by
 cases res with
 | odd way w=>obtain⟨a,l,h1,h2,_,h3⟩:=h;exact⟨a,l,h1,h2,h3⟩
 | many=>exact h
 | sheet nds=>obtain⟨a,s,li,lo,ln,nas,h1,h2,h3,h4,h5,h6,h7,_⟩:=h;exact⟨a,s,li,lo,ln,nas,h1,h2,h3,h4,h5,h6,h7⟩
theorem iL.same {H':Hp} (S:ak H H') (h:iL H v ins outs z res):iL H' v ins outs z res:=by
 cases res with
 | odd way w=>obtain⟨a,l,h1,h2,h3⟩:=h;exact⟨a,l,h1,S _ _ h2,h3.keep (ak.tups S) λ_ e=>S _ _ e⟩
 | many=>obtain⟨a,h1,h2⟩:=h;exact⟨a,h1,S _ _ h2⟩
 | sheet nds=>obtain⟨a,s,li,lo,ln,nas,h1,h2,h3,h4,h5,h6,h7⟩:=h;exact⟨a,s,li,lo,ln,nas,h1,S _ _ h2,S _ _ h3,S _ _ h4,S _ _ h5,S _ _ h6,af (λ_ _ h=>h.keep (ak.tups S) λ_ e=>S _ _ e) h7⟩
theorem u9 {K:PySem.W.Frag} {t:Tu} (h1:TuA H u t) (h2:TuA H v t):EqD K H (n+1) u v true:=by
 obtain⟨a,rfl,h1⟩:=h1;obtain⟨b,rfl,h2⟩:=h2;exact jZ (SqT.of h1) (SqT.of h2) rfl (eE rfl)
theorem xr {K:PySem.W.Frag} {t:Str × Nat} (h1:SgA H u t) (h2:SgA H v t):EqD K H (n+1) u v true:=by
 obtain⟨a,rfl,h1⟩:=h1;obtain⟨b,rfl,h2⟩:=h2;exact jZ (SqT.of h1) (SqT.of h2) rfl (eE rfl)
theorem e_ {K:PySem.W.Frag} {R:V->α->Prop} {l:List α} (h1:H a=some (.lst xs)) (h2:H b=some (.lst ys)) (p1:Paired R xs l) (p2:Paired R ys l) (e:∀x y t,R x t->R y t->EqD K H n x y true):EqD K H (n+1) (.ref a) (.ref b) true:=by
 have l1:=ar p1;have l2:=ar p2;refine lV (SqL.of h1) (SqL.of h2) (by omega) λj x y ex ey=>?_;obtain⟨t,et,r1⟩:=paired_get p1 ex;obtain⟨t',et',r2⟩:=paired_get p2 ey;rw[et]at et';cases et';exact e _ _ _ r1 r2
theorem xq {K:PySem.W.Frag} (h1:iK H a way) (h2:iK H b way):EqD K H (n+2) (.ref a) (.ref b) true:=by
 obtain⟨xs,h1,p1⟩:=h1;obtain⟨ys,h2,p2⟩:=h2;exact e_ h1 h2 p1 p2 λ_ _ _ r1 r2=>u9 r1 r2
theorem tO {K:PySem.W.Frag} {nd:Nd} (h1:dN H a nd) (h2:dN H b nd):EqD K H (n+2) (.ref a) (.ref b) true:=by
 obtain⟨xs,h1,p1⟩:=h1;obtain⟨ys,h2,p2⟩:=h2;exact e_ h1 h2 p1 p2 λ_ _ _ r1 r2=>xr r1 r2
theorem dq {H:Hp}:∀{nas:A3} {nds:List Nd},Paired (dN H) nas nds->Paired (λv nd=>∃b,v=V.ref b/\dN H b nd) (nas.map V.ref) nds
 | _,_,.nil=>.nil
 | _,_,.cons h t=>.cons ⟨_,rfl,h⟩ (dq t)
theorem vb {K:PySem.W.Frag} {as bs:A3} (h1:H a=some (.lst (as.map V.ref))) (h2:H b=some (.lst (bs.map V.ref))) (p1:Paired (dN H) as nds) (p2:Paired (dN H) bs nds):EqD K H (n+3) (.ref a) (.ref b) true :=
 e_ h1 h2 (dq p1) (dq p2) λ_ _ _ ⟨_,e1,r1⟩ ⟨_,e2,r2⟩=>by subst e1 e2;exact tO r1 r2
theorem lU {K:PySem.W.Frag} {ws:List Str} (h1:H a=some (.lst (ws.map V.str))) (h2:H b=some (.lst (ws.map V.str))):EqD K H (n+1) (.ref a) (.ref b) true :=
 lV (SqL.of h1) (SqL.of h2) rfl (eE (fR ws))
theorem jX {K:PySem.W.Frag} (h1:iL H u ins outs z res) (h2:iL H v ins outs z res) (q:Q (.bl false) H):mT K true u v H Q:=by
 cases res with
 | odd way w =>
  obtain⟨a,l,rfl,g1,w1⟩:=h1;obtain⟨b,m,rfl,g2,w2⟩:=h2;refine tG (SqT.of g1) (SqT.of g2) rfl (λj x y ex ey=>?_) q
  match j,ex,ey with
  | 0,ex,ey=>cases ex;cases ey;exact d4 rfl
  | 1,ex,ey=>cases ex;cases ey;exact xq w1 w2
  | 2,ex,ey=>cases ex;cases ey;exact d4 rfl
 | many =>
  obtain⟨a,rfl,g1⟩:=h1;obtain⟨b,rfl,g2⟩:=h2;exact tG (SqT.of g1) (SqT.of g2) rfl (eE rfl) q
 | sheet nds =>
 obtain⟨a,s,li,lo,ln,nas,rfl,g1,g2,g3,g4,g5,g6⟩:=h1;obtain⟨b,t,mi,mo,mn,mas,rfl,f1,f2,f3,f4,f5,f6⟩:=h2;refine tG (SqT.of g1) (SqT.of f1) rfl (λj x y ex ey=>?_) q
 match j,ex,ey with
 | 0,ex,ey=>cases ex;cases ey;exact d4 rfl
 | 1,ex,ey =>
  cases ex;cases ey;refine jZ (SqT.of g2) (SqT.of f2) rfl λj x y ex ey=>?_
  match j,ex,ey with
  | 0,ex,ey=>cases ex;cases ey;exact lU g3 f3
  | 1,ex,ey=>cases ex;cases ey;exact lU g4 f4
  | 2,ex,ey=>cases ex;cases ey;exact d4 rfl
  | 3,ex,ey=>cases ex;cases ey;exact vb g5 f5 g6 f6
def vM:Sp:=λvs H Q _=>∃(v:V) (d:Addr) (ins outs:List Str) (z:Str) (res:Res) (kvs:List (Key × V)) (g:Str->Str),vs=[v,.ref d]/\iL H v ins outs z res/\ROk (ins++outs) res/\ins.length+outs.length<=50/\H d=some (.dK kvs)/\vA kvs (ins++outs) g /\
 ∀v' H',ak H H'->iL H' v' (ins.map g) (outs.map g) z (res.map (fN g) g)->Q v' H'
section
theorem mO:FnScope ["found", "lead", "inputs", "outputs", "first", "nodes", "rows"] ["found", "lead"] (av (top 39)):=by fin2
theorem sK {f:Addr} {fd:FuncData} (Fu:Fun K "_law_led" "_law_led" (top 39) f fd) (T:Txt K mg TT):FnOk P w K mg base CX0 1 f fd ["found", "lead"] vM:=by
 have S:=mO;refine Fu.ok S (by room) (λcdv A outer s H vs Q E hr h=>?_);obtain⟨v,d,ins,outs,z,res,kvs,g,rfl,re,rok,few,hd,nmp,k⟩:=h;have hu:=cY hr;refine'⟨?_,?bb,?_⟩
 case bb =>
  walk_at "b";exact(aG cJ (aj au (pv 0) ae) ba (aF _));exact(aD (pv 0));exact(aG cJ (aj au (pv 0) ae) ba (aF _));refine' aD ?e
  case e =>
   walk_at "q";exact(gO (tgs:=["name", "way"]) (cap:=[("lead", 1)]) rfl ⟨rfl,rfl,rfl,rfl,rfl,rfl⟩ (aZ (aj au (pv 0) ae)) (λ_ _ _ _=>(fi (K:=K) (n:=2) rfl rfl (aH (bi (i:=0) (show List.Nodup [("name" : Str),("way" : Str),("lead" : Str)] by decide +kernel) rfl (by z_go)) (aH (bi (i:=1) (show List.Nodup [("name" : Str),("way" : Str),("lead" : Str)] by decide +kernel) rfl (by z_go)) bT)))) (λ_ _ _ _=>cI) (λ_ _ _ _=>(be (aa (bU hu (pv 2) (pv 0)) (aa (pv 1) ac ad)))));exact(aj au (pv 0) ae)
  exact(gK (aj au (pv 0) ae) (dX rfl (aH (bz 2 S.nd) (aH (bz 3 S.nd) (aH (bz 4 S.nd) (aH (bz 5 S.nd) bT))))));exact(lg (j:=6) S.nd rfl (by z_go) (tgs:=["node"]) (cap:=[("lead", 1)]) rfl ⟨rfl,rfl,rfl,rfl,rfl,rfl⟩ (aZ (pv 5)) (λ_ _ _ _=>(bi (i:=0) (show List.Nodup [("node" : Str),("lead" : Str)] by decide +kernel) rfl (by z_go))) (λ_ _ _ _=>cI) (λ_ _ _ _=>(gO (tgs:=["name", "to"]) (cap:=[("lead", 1)]) rfl ⟨rfl,rfl,rfl,rfl,rfl,rfl⟩ (rZ (K:=K) rfl (pv 0)) (λ_ _ _ _=>(fi (K:=K) (n:=2) rfl rfl (aH (bi (i:=0) (show List.Nodup [("name" : Str),("to" : Str),("lead" : Str)] by decide +kernel) rfl (by z_go)) (aH (bi (i:=1) (show List.Nodup [("name" : Str),("to" : Str),("lead" : Str)] by decide +kernel) rfl (by z_go)) bT)))) (λ_ _ _ _=>cI) (λ_ _ _ _=>(be (aa (bU hu (pv 2) (pv 0)) (aa (pv 1) ac ad)))))));refine' aD ?e
  case e =>
   walk_at "q";exact(c7 "name" [("lead", 1)] (aZ (pv 2)) (λ_ _ _ _=>(bU hu (pv 1) (pv 0))));exact(c7 "name" [("lead", 1)] (aZ (pv 3)) (λ_ _ _ _=>(bU hu (pv 1) (pv 0))));exact(pv 4);exact(pv 6)
 x_go
 have dget:∀{H':Hp} {n:Str},ak H H'->n∈ins++outs->dj H' d (.str n) (some (.str (g n))):=λ{H' n} S' hn=>by
  have z:=dj.k (k:=Sum.inr n) (S' _ _ hd);rw[nmp n hn]at z;exact z
 cases res with
 | many =>
  obtain⟨a,rfl,ha⟩:=re;lk;refine ifT (QA rfl) ?_;lk;exact k _ H (ak.refl _) ⟨a,rfl,ha⟩
 | odd way wd =>
  obtain⟨a,l,rfl,ha,wl,hl,pw⟩:=re;lk;refine ifF (Qy (λz=>by have:=V.str.inj z;revert this;decide +kernel)) ?_;lk;refine ifT (QA rfl) ?_;lk;refine bx (s_list (i_op (aY rfl (i_c (i_ixT ha rfl ⟨l,rfl,⟨_,SqL.of hl⟩,λD hD=>?_⟩)))));refine cv (λ_=>true) (λH v (t:Tu)=>TuA H v (fN g t)) hD hl pw (QK rok.2 (by decide)) (λH H' v x k h=>h.kt k) (λv x H' ia mx S' G N hG _=>?_) (λH5 ys S5 hy p=>?_)
  ·obtain⟨b,rfl,hb⟩:=ia.kt (ak.tups S');refine⟨b,_,rfl,SqT.of hb,rfl,_,_,rfl,aw ⟨_,_,rfl,aw ⟨rfl,⟨rfl,trivial⟩,i_yes (b9 ?_)⟩⟩⟩;lk;refine⟨d,_,rfl,dget S' (rok.1 x mx).1,?_⟩;lk;refine⟨by simp[sizeLine],λc1 hc1=>?_⟩;exact hG rfl _ _ (aC hc1) ⟨c1,rfl,ah⟩
  rw[bB]at p;have p:=bw (f:=fN g) p;have ha5:=S5 _ _ ha;lk;refine⟨by simp[sizeLine],λc2 hc2=>?_⟩;ctx_has H5 c2 H6 S6 q6 ag hc2;exact k _ H6 (S5.trans S6) ⟨c2,D,rfl,q6,_,S6 _ _ hy,af (λ_ _ h=>TuA.kt (ak.tups S6) h) p⟩
 | sheet nds =>
 obtain⟨a,s,li,lo,ln,nas,rfl,ha,hs,hi,ho,hn,pn⟩:=re;lk;refine ifF (Qy (λz=>by have:=V.str.inj z;revert this;decide +kernel)) ?_;lk;refine ifF (Qy (λz=>by have:=V.str.inj z;revert this;decide +kernel)) ?_;lk;refine⟨s,_,rfl,SqT.of hs,rfl,_,_,rfl,aw ⟨_,_,rfl,aw ⟨_,_,rfl,aw ⟨_,_,rfl,aw ⟨rfl,?_⟩⟩⟩⟩⟩;lk;refine bx (s_list (aY rfl ⟨ln,rfl,⟨_,SqL.of hn⟩,λD hD=>?_⟩));let I19:IvC:=λi H' ys=>ak H H'/\H' D=some (.lst ys)/\∃bs:A3,ys=bs.map V.ref/\Paired (dN H') bs ((nds.take i).map (ndM g))/\D∉bs;refine jj (xs:=nas.map V.ref) I19 ⟨aC hD,ah,[],rfl,by rw[List.take_zero];exact .nil,by simp⟩ (λi H' ys p=>⟨p.2.1,SqL.of (p.1 _ _ hn)⟩) (λi x H' ys ex p=>?_) (λH2 ys p=>?_)
 ·obtain⟨S',qD,bs,rfl,pb,nb⟩:=p;have il:=(Qf.mp ex).1;rw[Qc]at il;rw[Qv]at ex;obtain⟨na,en,rfl⟩:=XD.mp ex;obtain⟨nd,ed,vs,hvs,pv⟩:=paired_get pn en;obtain⟨n10,nin⟩:=rok.2 nd (Ql ed);have hvs':=S' _ _ hvs;have pv':=af (λ_ _ h=>SgA.kt (ak.tups S') h) pv;have lb:=ar pb;rw[Qc,QM]at lb;have n40:=rok.1;refine aw ⟨⟨rfl,trivial⟩,i_yes (b9 ?_)⟩;refine bx (s_list (aY rfl ⟨na,rfl,⟨_,SqL.of hvs'⟩,λL hL=>?_⟩));refine cv (λ_=>true) (λH v (e:Str × Nat)=>SgA H v (g e.1,e.2)) hL hvs' pv' (by omega) (λH H' v x k h=>h.kt k) (λv x H2 ia mx S2 G N hG _=>?_) (λH5 ys S5 hy p=>?_)
  ·obtain⟨b,rfl,hb⟩:=ia.kt (ak.tups S2);refine⟨b,_,rfl,SqT.of hb,rfl,_,_,rfl,aw ⟨_,_,rfl,aw ⟨rfl,⟨rfl,trivial⟩,i_yes (b9 ?_)⟩⟩⟩;refine i_tup (i_cons ?_);refine aY rfl (aY rfl ⟨d,_,rfl,dget (S'.trans S2) (nin x mx),?_⟩);refine i_cons (aY rfl (bf ⟨by simp[sizeLine],λc1 hc1=>?_⟩));exact hG rfl _ _ (aC hc1) ⟨c1,rfl,ah⟩
  rw[bB]at p;have p:=bw (f:=λe:Str × Nat=>(g e.1,e.2)) p;have qD5:=S5 _ _ qD;have LD:L≠D:=aE qD hL;refine dQ.mk qD5 (by rw[Qc];exact il) (by rw[Qc];omega) ⟨bK (S'.trans S5) hD,ah,bs++[L],by rw[QI];rfl,?_,by simp[nb,LD.symm]⟩;rw[List.take_succ,ed,QI];have ku:=bO (o:=.lst (bs.map V.ref++[V.ref L])) qD5;have old:∀{b:Addr} {nd:Nd},b≠D->dN H5 b nd->dN (upd H5 D (.lst (bs.map V.ref++[V.ref L]))) b nd:=λ{b nd} z h=>h.keep ku λvs e=>by rw[aq z];exact e
  have pb5:Paired (dN H5) bs ((nds.take i).map (ndM g)):=af (λ_ _ h=>h.keep (ak.tups S5) λ_ e=>S5 _ _ e) pb;exact aV (bD pb5 λb nd hb h=>old (λz=>nb (z▸hb)) h) (old LD ⟨ys,hy,p⟩)
 obtain⟨S2,qD,bs,rfl,pb,nb⟩:=p;rw[Qc,Xc (by rw[ar pn];exact Qj _)]at pb;have hi2:=S2 _ _ hi;have ho2:=S2 _ _ ho;have hd2:=S2 _ _ hd;lk;refine gm rfl rfl hi2 hd2 (λn h=>nmp n (Q1 _ h)) (by omega) λpi H6 S6 q6=>?_;lk;refine gm rfl rfl (S6 _ _ ho2) (S6 _ _ hd2) (λn h=>nmp n (QC _ h)) (by omega) λpo H7 S7 q7=>?_;have S67:=S6.trans S7;lk;refine⟨by simp[sizeLine],λa8 h8=>?_⟩;ctx_has H7 a8 H8 S8 q8 ag h8;lk;refine⟨by simp[sizeLine],λa9 h9=>?_⟩;ctx_has H8 a9 H9 S9 q9 ag h9;have S89:=S8.trans S9;have S29:=S67.trans S89;exact k _ H9 (S2.trans S29) ⟨a9,a8,pi,po,D,bs,rfl,q9,S9 _ _ q8,S89 _ _ (S7 _ _ q6),S89 _ _ q7,S29 _ _ qD,af (λ_ _ h=>h.keep (ak.tups S29) λ_ e=>S29 _ _ e) pb⟩
end
theorem RgA.old {D:Dk} {lo:Addr} (kt:aX H H') (o:∀b x,H b=some x->¬D.own b->H' b=some x) (n1:¬D.own li) (n2:¬D.own lo) (n3:¬D.own l) (h:RgA H a li lo l vs r):RgA H' a li lo l vs r :=
 ⟨kt _ _ h.ha,o _ _ h.hi n1,o _ _ h.ho n2,o _ _ h.arcs.h n3,af (λ_ _ q=>q.kt kt) h.arcs.p⟩
theorem kr.old {D:Dk} (kt:aX H H') (o:∀b x,H b=some x->¬D.own b->H' b=some x) (DA:D.At H0) (h:kr H0 H v r res):kr H0 H' v r res:=by
 cases res with
 | odd way w =>
  obtain⟨a,l,h1,h2,h3,h4⟩:=h;exact⟨a,l,h1,kt _ _ h2,h3,h4.keep kt λ_ e=>o _ _ e (aB DA h3)⟩
 | many=>obtain⟨a,h1,h2⟩:=h;exact⟨a,h1,kt _ _ h2⟩
 | sheet nds =>
 obtain⟨a,s,li,lo,ln,nas,h1,h2,h3,h4,h5,h6,h7,h8,h9⟩:=h;have no:∀b∈li::lo::ln::nas,¬D.own b:=λb hb=>aB DA (h9 b hb);exact⟨a,s,li,lo,ln,nas,h1,kt _ _ h2,kt _ _ h3,o _ _ h4 (no _ (by simp)),o _ _ h5 (no _ (by simp)),o _ _ h6 (no _ (by simp)),bD h7 λb nd hb h=>h.keep kt λ_ e=>o _ _ e (no _ (by simp[hb])),h8,h9⟩
theorem kr.same {H':Hp} (S:ak H H') (h:kr H0 H v r res):kr H0 H' v r res:=by
 cases res with
 | odd way w =>
  obtain⟨a,l,h1,h2,h3,h4⟩:=h;exact⟨a,l,h1,S _ _ h2,h3,h4.keep (ak.tups S) λ_ e=>S _ _ e⟩
 | many=>obtain⟨a,h1,h2⟩:=h;exact⟨a,h1,S _ _ h2⟩
 | sheet nds =>
 obtain⟨a,s,li,lo,ln,nas,h1,h2,h3,h4,h5,h6,h7,h8,h9⟩:=h;exact⟨a,s,li,lo,ln,nas,h1,S _ _ h2,S _ _ h3,S _ _ h4,S _ _ h5,S _ _ h6,af (λ_ _ h=>h.keep (ak.tups S) λ_ e=>S _ _ e) h7,h8,h9⟩
theorem u8 {n:Str} (T:Tr r (rgF n r as) (fF n) id) (full:ua r):ua (rgF n r as):=λt ht=>by
 have ht:bt r.ws t:=ht;obtain⟨a,ha,e⟩:=full _ (bt.flip (n:=n) ht);exact⟨_,T.mem ha,by show fF n a.two=t;rw[e,nE ht.2]⟩
theorem yy {n:Str} (ok:RgOk r) (T:Tr r (rgF n r as) (fF n) id) (rx:RgX r):RgX (rgF n r as):=by
 refine⟨rx.low,rx.i4,rx.o1,?_,?_⟩
 ·have:=T.pm.length_eq;rw[Qc]at this;show as.length<64;have h:=rx.few;have this:as.length=r.arcs.length:=this;omega
 have pm:=T.pm.map prA;refine pm.nodup_iff.mpr ?_;rw[Xm];refine QN.mpr ((QN.mp rx.nd).imp_of_mem λ{a b} ha hb ne e=>ne ?_);have oa:=ok.arcs a ha;have ob:=ok.arcs b hb;have e1:fF n a.one=fF n b.one:=congrArg Prod.fst e;have e2:fF n a.two=fF n b.two:=congrArg Prod.snd e;exact Prod.ext (T.inj _ _ oa.o ob.o e1) (T.inj _ _ oa.t ob.t e2)
theorem uk {K:PySem.W.Frag} (h:SqL K H a xs) (k:∀o,H a=some o->H' a=some o):SqL K H' a xs:=by
 rcases h with h|h
 ·left
  rcases h with e|⟨o,e⟩
  ·exact .inl (k _ e)
  exact .inr ⟨o,k _ e⟩
 exact .inr h
theorem jh {K:PySem.W.Frag} {as bs:A3} (p1:Paired (dN H) as nds) (p2:Paired (dN H) bs nds) {x y:V} (ex:(as.map V.ref)[j]?=some x) (ey:(bs.map V.ref)[j]?=some y):EqD K H 8 x y true:=by
 obtain⟨t,et,b1,rfl,r1⟩:=paired_get (dq p1) ex;obtain⟨t',et',b2,rfl,r2⟩:=paired_get (dq p2) ey;rw[et]at et';cases et';exact tO r1 r2
def on (K:PySem.W.Frag):Sp:=λvs H Q _=>∃(a:Addr) (ns:List Int),vs=[.ref a]/\SqL K H a (ns.map V.int)/\ns.length<=63/\∀H',Q (.bl true) H'
section
theorem wB:FnScope ["script", "k", "pool", "ring", "wires", "found", "names", "lead", "plain", "name", "other"] ["script"] (av (top 40)):=by fin2
theorem sL {f:Addr} {fd:FuncData} (Fu:Fun K "law" "law" (top 40) f fd) (T:Txt K mg TT) (f_law_pool:Fn P w K mg base "_law_pool" ["script", "k"] 1 (rG K)) (f_law_ring:Fn P w K mg base "_law_ring" ["pool"] 3 rF) (f_unfolded:Fn P w K mg base "unfolded" ["ring_sheet"] 5 vH) (f_law_names:Fn P w K mg base "_law_names" ["pool", "many"] 2 gu) (f_law_renamed:Fn P w K mg base "_law_renamed" ["ring", "names"] 1 (vJ K)) (f_law_led:Fn P w K mg base "_law_led" ["found", "lead"] 1 vM) (f_law_take:Fn P w K mg base "_law_take" ["pool", "many"] 1 eQ) (f_law_flipped:Fn P w K mg base "_law_flipped" ["ring", "name"] 1 rL) (f_is_ring_sheet:Fn P w K mg base "is_ring_sheet" ["thing"] 5 kO):FnOk P w K mg base CX0 7 f fd ["script"] (on K):=by
 have S:=wB;refine Fu.ok S (by room) (λcdv A outer s H vs Q E hr h=>?_);obtain⟨sc,cells,rfl,hS,hlen,k⟩:=h;have hu:=cY hr;refine'⟨?_,?bb,?_⟩
 case bb =>
  walk_at "b";walk_at "f";exact(d_ (by rfl) T.n_range (aa (am (qX rfl) (by rfl) T.n_max PyProof.Rows.boot_max (aa ae (aa (am (jm rfl) (by rfl) T.n_min PyProof.Rows.boot_min (aa ae (aa (am ay (by rfl) T.n_len QJ (aa (pv 0) ac ad)) ac aP) aQ)) ac aP) aQ)) ac aP));exact(bz 1 S.nd);walk_at "p";exact aL 2 S.nd (aJ f_law_pool hr (aa (pv 0) (aa (pv 1) ac ad) ad));exact aL 3 S.nd (aJ f_law_ring hr (aa (pv 2) ac ad));exact aL 4 S.nd (aM dh (aj au (pv 3) ae) (aj au (pv 3) ae));exact aL 5 S.nd (aJ f_unfolded hr (aa (pv 3) ac ad));exact aL 6 S.nd (aJ f_law_names hr (aa (pv 2) (aa (am ay (by rfl) T.n_len QJ (aa (pv 4) ac ad)) ac aP) ad));exact aL 7 S.nd (lr rfl (by rfl) T.n_dict (by rfl) T.n_zip (aa (am de (by rfl) T.n_sorted Xd (aa (pv 4) ac ad)) (aa (am de (by rfl) T.n_sorted Xd (aa (pv 6) ac ad)) ac aP) aP));exact(aG (jG hr.units) (aJ f_unfolded hr (aa (aJ f_law_renamed hr (aa (pv 3) (aa (pv 6) ac ad) ad)) ac aP)) (aJ f_law_led hr (aa (pv 5) (aa (pv 7) ac ad) ad)) (aF _));exact(aD c9);exact aL 8 S.nd (aJ f_unfolded hr (aa (be (aa (pe_lst ac) (aa (pv 4) (aa (aj au (pv 3) ae) (aa (aj au (pv 3) ae) ac se_sub) se_sub) ad) se_lst)) ac se_tup));exact(PW.pt (rT (aG iX (aj au (pv 5) ae) ba (aF _)) (oJ (aG (jG hr.units) (pv 8) (pv 5) (aF _)))));exact(aD c9);exact(aG cJ (aj au (pv 5) ae) ba (aF _));exact aL 9 S.nd (aj aR (pv 4) (aJ f_law_take hr (aa (pv 2) (aa (am ay (by rfl) T.n_len QJ (aa (pv 4) ac ad)) ac aP) ad)));exact aL 10 S.nd (aJ f_unfolded hr (aa (aJ f_law_flipped hr (aa (pv 3) (aa (pv 9) ac ad) ad)) ac aP));exact(PW.pt (dW (aG iX (aj au (pv 10) ae) ba (aF _)) (dW (aG (gU hr.units) (aj au (aj au (pv 10) ae) ae) (aj au (aj au (pv 5) ae) ae) (aF _)) (dC (aG (gU hr.units) (aj au (aj au (pv 8) ae) ae) (aj au (aj au (pv 5) ae) ae) (aF _))))));exact(aD c9);exact(ci (ca (aJ f_is_ring_sheet hr (aa (aJ f_law_flipped hr (aa (pv 3) (aa (aj aR (pv 4) ae) ac) ad)) ac aP))));exact(aD c9);exact(aD c9)
 x_go;lk;refine⟨_,_,rfl,Or.inl hS,?_⟩;lk;refine⟨_,_,rfl,?_⟩;lk;refine⟨_,_,rfl,?_⟩;rw[Qc]
 obtain⟨N,hN,N6⟩:∃N:Nat,(if (if (cells.length:Int)<4 then (cells.length:Int) else 4)>1 then (if (cells.length:Int)<4 then (cells.length:Int) else 4) else 1)=(N:Int)/\N<=4:=by
  by_cases h2:(cells.length:Int)<4
  ·rw[Qs h2];by_cases h1:(cells.length:Int)>1
   ·rw[Qs h1];exact⟨cells.length,rfl,by omega⟩
   rw[Qq h1];exact⟨1,rfl,by omega⟩
  rw[Qq h2,Qs (by decide)];exact⟨4,rfl,by omega⟩
 rw[hN];lk;refine⟨by omega,by omega,?_⟩;rw[Xa];let I20:IvF:=λi U H'=>(∃x1 x2 x3 x4 x5 x6 x7 x8 x9 x10,U=[some (.ref sc),x1,x2,x3,x4,x5,x6,x7,x8,x9,x10])/\SqL K H' sc (cells.map V.int);refine fQ (n:=N) I20 ⟨⟨_,_,_,_,_,_,_,_,_,_,rfl⟩,hS⟩ (λi U H0 hi pv=>?_) (λU H' pv=>?_)
 ·clear hS;obtain⟨⟨x1,x2,x3,x4,x5,x6,x7,x8,x9,x10,rfl⟩,hS⟩:=pv;refine aw ?_;lk;refine⟨sc,cells,i,by rw[Int.zero_add],hS,by omega,λD H1 dn S1 D0 DA1=>?_⟩;lk;refine⟨D,rfl,DA1,by omega,λa li lo l as r H2 k2 fresh at2 ok full rx=>?_⟩;have q2:∀o,H0 sc=some o->H2 sc=some o/\¬D.own sc:=λo e=>⟨k2.old _ _ (S1 _ _ e) (λz=>aA e D0 z),aA e D0⟩;have nli:¬D.own li:=aB DA1 (fresh _ (by simp));have nlo:¬D.own lo:=aB DA1 (fresh _ (by simp));have nl:¬D.own l:=aB DA1 (fresh _ (by simp));clear S1;have w5:=ok.w5;have w1:=ok.w1;have lw:(r.ins.map V.str).length+(r.outs.map V.str).length=r.ws.length:=by rw[Qc,Qc];unfold Rg.ws;rw[Qh]
  have ha2:=at2.ha;lk;refine eM at2.hi at2.ho (by omega) λLw hLw=>?_;rw[<-QI];ctx_has H2 Lw H3 S3 q3 ag hLw;have q3:H3 Lw=some (.lst (r.ws.map V.str)):=q3;have nLw:¬D.own Lw:=aB (D:=D.more 1000) k2.dk hLw;have at3:=at2.same S3;have k3:=k2.trans (Kp.of k2.dk S3);lk;refine⟨a,li,lo,l,as,r,rfl,at3,ok,λv ts H4 S4 wt re=>?_⟩;have at4:=at3.same S4;have k4:=k3.trans (Kp.of k3.dk S4);have q4:=S4 _ _ q3;lk;rw[Qc];refine⟨D.more 1000,r.ws.length,rfl,k4.dk,by show D.n+1000<50000;omega,w1,by omega,λnm ns H5 k5 hnm nsl nsd nslow qn=>?_⟩;have o5:∀b x,H4 b=some x->¬D.own b->H5 b=some x:=k5.old;have kt5:aX H4 H5:=k4.kt o5;have at5:=at4.old (D:=D) kt5 o5 nli nlo nl;have q5:=o5 _ _ q4 nLw;have re5:=re.old (D:=D.more 1000) kt5 o5 k3.dk;have k15:Kp (D.more 1200) H1 H5:=k4.trans (k5.le (D':=D.more 1200) (Nat.le_of_eq (Nat.add_assoc _ _ _)));have nnm:¬D.own nm:=aB (D:=D.more 1000) k4.dk hnm;have sc5:∀o,H0 sc=some o->H5 sc=some o:=λo e=>o5 _ _ (S4 _ _ (S3 _ _ (q2 o e).1)) (q2 o e).2;clear k5 k4 at4 q4 at3 q3 at2 kt5 o5 re S4 S3;lk;refine vZ ?_;lk;refine⟨Lw,r.ws,rfl,q5,by omega,λp2 w2 hp2 pm2 so2=>?_⟩;ctx_has H5 p2 H6 S6 g6 ag hp2;have qn6:=S6 _ _ qn;lk;refine⟨nm,ns,rfl,qn6,by omega,λp3 n3 hp3 pm3 so3=>?_⟩;ctx_has H6 p3 H7 S7 g7 ag hp3;have g67:=S7 _ _ g6;lk;refine⟨p2,p3,w2,_,rfl,SqL.of g67,SqL.of g7,by rw[Qc,pm2.length_eq,pm3.length_eq];omega,by rw[pm2.length_eq];omega,λd hd=>?_⟩;have ld:di r.ws ns (piN w2 n3):=⟨w2,n3,pm2,pm3,so2,so3,rfl⟩;have nmp:vA (bL [] (bA w2 (n3.map V.str))) r.ws (piN w2 n3):=λn h=>oO (pm2.nodup_iff.mpr ok.nd) (by rw[pm2.length_eq,pm3.length_eq];omega) n (pm2.mem_iff.mpr h);ctx_has H7 d H8 S8 q8 ag hd;generalize bL [] (bA w2 (n3.map V.str))=kvs at q8 nmp;generalize piN w2 n3=g at ld nmp;have S58:=(S6.trans S7).trans S8;have at8:=at5.same S58;have qn8:=S58 _ _ qn;clear g67 g7 g6 qn6 S6 S7 S8 qn pm2 pm3 so2 so3;lk;refine⟨a,li,lo,l,nm,as,r,ns,rfl,at8,ok,rx,qn8,nsl.symm,λa' li' lo' l' as' g2 ars H9 S9 ld2 pm9 at9=>?_⟩;obtain rfl:=ld2.det ld;have T9:=yw (r:=r) (ld.inj nsd nsl.symm) rx.nd pm9;have ok9:=yx ok T9;lk;refine⟨a',li',lo',l',as',_,rfl,at9,ok9,λv9 ts9 Ha Sa wt9 re9=>?_⟩;rw[pQ ok T9 (ld.mono nsl.symm) wt wt9]at re9;have S8a:=S9.trans Sa;have S5a:=S58.trans S8a;lk;refine⟨v,d,r.ins,r.outs,r.z,unf r ts,kvs,g2,rfl,(re5.same S5a).e,ue ok wt,by unfold Rg.ws at w5;rw[Qh]at w5;omega,S8a _ _ q8,nmp,λv' Hb Sb reb=>?_⟩;refine jX (re9.e.same Sb) reb ?_;refine⟨_,rfl,ifF rfl ?_⟩;have S5b:=S5a.trans Sb;clear re9 reb S8a S5a at8 S9 Sa Sb T9 ok9 at9 pm9 q8 S58;have at_b:=at5.same S5b;have qb:=S5b _ _ q5;have reB:=re5.same S5b;have kb:Kp (D.more 1200) H1 Hb:=k15.trans (Kp.of k15.dk S5b);have scb:∀o,H0 sc=some o->Hb sc=some o:=λo e=>S5b _ _ (sc5 o e);clear at5 q5 re5 S5b sc5 k15;have hab:=at_b.ha;lk;refine⟨by simp[sizeLine],λe1 he1=>?_⟩;ctx_has Hb e1 Hc Sc qe ag he1;have hac:=Sc _ _ hab;lk;refine⟨by simp[sizeLine],λe2 he2=>?_⟩;ctx_has Hc e2 Hd Sd qf ag he2;have Sbd:=Sc.trans Sd;have kd:Kp (D.more 1200) H1 Hd:=kb.trans (Kp.of kb.dk Sbd);have at_d:RgA Hd e2 e1 Lw l as ⟨[],r.ws,r.z,r.arcs⟩:=⟨qf,Sd _ _ qe,Sbd _ _ qb,(at_b.same Sbd).arcs⟩;have ok_d:RgOk ⟨[],r.ws,r.z,r.arcs⟩:=⟨ok.nd,ok.w1,ok.w5,ok.st,ok.few,ok.arcs⟩;lk;refine⟨e2,e1,Lw,l,as,_,rfl,at_d,ok_d,λvp tsp He Se wtp rep=>?_⟩;obtain rfl:tsp=ts:=wtp.one wt λ_=>Iff.rfl;rw[wm (r:=⟨[],r.ws,r.z,r.arcs⟩) (r':=r) rfl rfl rfl]at rep;have Sbe:=Sbd.trans Se;have ke:Kp (D.more 1200) H1 He:=kb.trans (Kp.of kb.dk Sbe);have at_e:=at_b.same Sbe;have qe:=Sbe _ _ qb;have reE:=reB.same Sbe;have sce:∀o,H0 sc=some o->He sc=some o:=λo e=>Sbe _ _ (scb o e);clear at_b qb reB scb kb at_d qf Sbd Sbe Se Sc Sd hac hab;refine aw ?_;let I21:IvJ:=λU G=>U=[some (.ref sc),some (.int (0+(i:Int))),some (.ref D.d),some (.ref a),some (.ref Lw),some v,some (.ref nm),some (.ref d),some vp,x9,x10]/\G=He;with_reducible refine cH I21 (λRR hJ=>?_) (λU G h=>?_)
  ·cases eU:unf r tsp with
   | sheet nds =>
    rw[eU]at reE;obtain⟨fa,s,sli,slo,sln,nas,rfl,hfa,_⟩:=reE;lk;refine ifF (by first|rfl|simp) ?_;exact s_next (hJ _ _ ⟨rfl,rfl⟩)
   | odd way wd =>
    rw[eU]at reE rep;have e1:iL He vp r.ins r.outs r.z (.odd way wd):=rep.e;have e2:=reE.e;obtain⟨fa,fl,rfl,hfa,_⟩:=reE;lk;refine ifT (by first|rfl|(rw[Bool.not_eq_true'];exact Qy (λz=>by have:=V.str.inj z;revert this;decide +kernel))) ?_;lk;refine jX e1 e2 ?_;exact⟨_,rfl,ifF rfl (s_next (hJ _ _ ⟨rfl,rfl⟩))⟩
   | many =>
    rw[eU]at reE rep;have e1:iL He vp r.ins r.outs r.z .many:=rep.e;have e2:=reE.e;obtain⟨fa,rfl,hfa⟩:=reE;lk;refine ifT (by first|rfl|(rw[Bool.not_eq_true'];exact Qy (λz=>by have:=V.str.inj z;revert this;decide +kernel))) ?_;lk;refine jX e1 e2 ?_;exact⟨_,rfl,ifF rfl (s_next (hJ _ _ ⟨rfl,rfl⟩))⟩
  obtain⟨rfl,rfl⟩:=h;let I22:IvJ:=λU G=>∃x9 x10,U=[some (.ref sc),some (.int (0+(i:Int))),some (.ref D.d),some (.ref a),some (.ref Lw),some v,some (.ref nm),some (.ref d),some vp,x9,x10]/\RgA G a li lo l as r/\G Lw=some (.lst (r.ws.map V.str))/\∀o,H0 sc=some o->G sc=some o;with_reducible refine cH I22 (λRR hJ=>?_) (λU G h=>?_)
  ·cases eU:unf r tsp with
   | odd way wd =>
    rw[eU]at reE;obtain⟨fa,fl,rfl,hfa,_⟩:=reE;lk;refine ifF (Qy (λz=>by have:=V.str.inj z;revert this;decide +kernel)) ?_;exact s_next (hJ _ _ ⟨_,_,rfl,at_e,qe,sce⟩)
   | many =>
    rw[eU]at reE;obtain⟨fa,rfl,hfa⟩:=reE;lk;refine ifF (Qy (λz=>by have:=V.str.inj z;revert this;decide +kernel)) ?_;exact s_next (hJ _ _ ⟨_,_,rfl,at_e,qe,sce⟩)
   | sheet nds =>
    have hfv:∃fa s:Addr,v=.ref fa/\G fa=some (.tup [.str "sheet", .ref s]):=by
     rw[eU]at reE;obtain⟨fa,s,sli,slo,sln,nas,h1,h2,_⟩:=reE;exact⟨fa,s,h1,h2⟩
    obtain⟨fa,s,rfl,hfa⟩:=hfv;lk;refine ifT (QA rfl) ?_;lk;rw[Qc];refine bn ke (by omega) (by omega) (by omega) λm Hf m0 m1 o7 k7=>?_;have kt7:aX G Hf:=ke.kt o7;obtain⟨j,rfl⟩:∃j:Nat,m=(j:Int):=⟨m.toNat,by omega⟩;have jl:j<r.ws.length:=by omega
    have at7:=at_e.old (D:=D) kt7 o7 nli nlo nl;have qf:=o7 _ _ qe nLw;have re7:=reE.old (D:=D.more 1000) kt7 o7 (k3.dk);have rp7:=rep.old (D:=D.more 1200) kt7 o7 kd.dk;have sc7:∀o,H0 sc=some o->Hf sc=some o:=λo e=>o7 _ _ (sce o e) (q2 o e).2;rw[eU]at re7 rp7;have hn:r.ws[j]∈r.ws:=Xi jl;lk;refine i_ixL (SqL.of qf) (cw (by rw[Qv,Qd jl];rfl)) ?_;generalize r.ws[j]=n at hn;lk;refine⟨a,li,lo,l,as,r,n,rfl,at7,ok,rx,hn,λa8 l8 as8 ars Hg Sg pm8 so8 at8=>?_⟩;have T8:=v8 (r:=r) (n:=n) rx.nd pm8;lk;refine⟨a8,li,lo,l8,as8,_,rfl,at8,v_ ok hn T8,λvo tso Hh Sh wto reo=>?_⟩;rw[rh ok hn T8 wt wto eU]at reo;have S7h:=Sg.trans Sh;have re8:=re7.same S7h;have rp8:=rp7.same S7h;obtain⟨ga,gs,gli,glo,gln,gnas,rfl,g1,g2,_,_,g5,g6,_⟩:=reo;obtain⟨fa',s',sli,slo,sln,nas,e0,h1,h2,_,_,h5,h6,_⟩:=re8;cases e0;obtain⟨pa,ps,pli,plo,pln,pnas,rfl,i1,i2,_,_,i5,i6,_⟩:=rp8;have atH:=at7.same S7h;have qh:=S7h _ _ qf;have sch:∀o,H0 sc=some o->Hh sc=some o:=λo e=>S7h _ _ (sc7 o e);clear rp7 re7 at7 qf sc7 rep reE T8 at8 pm8 so8;lk;refine ifF (by first|rfl|simp) ?_;lk;refine tH (SqL.of g5) (SqL.of h5) (by rw[Qc,Qc,ar g6,ar h6]) (λj x y ex ey=>?_) ⟨_,rfl,ifF rfl ?_⟩
    ·exact jh g6 h6 ex ey
    lk;refine tH (SqL.of i5) (SqL.of h5) (by rw[Qc,Qc,ar i6,ar h6]) (λj x y ex ey=>?_) ⟨_,rfl,ifF rfl ?_⟩
    ·exact jh i6 h6 ex ey
    exact s_next (hJ _ _ ⟨_,_,rfl,atH,qh,sch⟩)
  obtain⟨y9,y10,rfl,atG,qG,scG⟩:=h;lk;have w0:r.ws[0]∈r.ws:=Xi w1;refine i_ixL (i:=((0:Nat):Int)) (SqL.of qG) (cw (by rw[Qv,Qd w1];rfl)) ?_;generalize r.ws[0]=n at w0;lk;refine⟨a,li,lo,l,as,r,n,rfl,atG,ok,rx,w0,λa8 l8 as8 ars Hg Sg pm8 so8 at8=>?_⟩;have T8:=v8 (r:=r) (n:=n) rx.nd pm8;lk;refine⟨a8,li,lo,l8,as8,_,rfl,at8,v_ ok w0 T8,u8 T8 full,yy ok T8 rx,so8,λHh Sh=>?_⟩;refine⟨_,rfl,ifF rfl (s_next ⟨⟨_,_,_,_,_,_,_,_,_,_,rfl⟩,uk hS λo e=>Sh _ _ (Sg _ _ (scG o e))⟩)⟩
 obtain⟨⟨x1,x2,x3,x4,x5,x6,x7,x8,x9,x10,rfl⟩,_⟩:=pv;lk;exact k H'
end
end K2
namespace K2
open PySem L2 PySem.Spec PyProof.Rows
theorem vV {A:Type} {us:List A} (h:us.length=1):∃a0,us=[a0]:=by
 match us,h with
 | [a0],_=>exact⟨_,rfl⟩
theorem yf {A:Type} {us:List A} (h:us.length=2):∃a0 a1,us=[a0,a1]:=by
 match us,h with
 | [a0,a1],_=>exact⟨_,_,rfl⟩
theorem ye {A:Type} {us:List A} (h:us.length=3):∃a0 a1 a2,us=[a0,a1,a2]:=by
 match us,h with
 | [a0,a1,a2],_=>exact⟨_,_,_,rfl⟩
structure FX (K:PySem.W.Frag) (n:Str) (i:Nat) (f:Addr) (cd:Value):Prop where
 a:PySem.W.nsIn K mainGlobals n=some (some (.ref f))
 l:∃oc od kV dc pm an ct sl,K.lookup f=some ⟨oc,od,.func (PySem.W.fnOf n n (cF (top i)) (bV (top i)) (av (top i)) .none kV dc pm an cd ct),sl⟩
 c:PySem.W.codeIn K cd n=true
 k:PySem.W.keepIn K (.ref f)=true
theorem FX.fn {K:PySem.W.Frag} {n:Str} {i:Nat} {f:Addr} {cd:Value} {h:Heap} {mg:A2} (X:K.In h) (G:h.Ns mainGlobals mg) (x:FX K n i f cd):∃fd,Fun K n n (top i) f fd/\mg n=some (.ref f):=by
 obtain⟨a,⟨_,_,_,_,_,_,_,_,l⟩,c,k⟩:=x;exact⟨_,tL (st:=top i) l c k,PySem.W.mg_of X G a⟩
abbrev ZN (K:PySem.W.Frag) (n:Str):Prop:=PySem.W.nsIn K mainGlobals n=some none
theorem bn1 {p:List Value->Prop} (h:∀a0,p [a0]) (us:List Value) (hl:us.length=1):p us:=by
 obtain⟨a0,e⟩:=vV hl;subst e;exact h a0
theorem bn2 {p:List Value->Prop} (h:∀a0 a1,p [a0,a1]) (us:List Value) (hl:us.length=2):p us:=by
 obtain⟨a0,a1,e⟩:=yf hl;subst e;exact h a0 a1
theorem bn3 {p:List Value->Prop} (h:∀a0 a1 a2,p [a0,a1,a2]) (us:List Value) (hl:us.length=3):p us:=by
 obtain⟨a0,a1,a2,e⟩:=ye hl;subst e;exact h a0 a1 a2
theorem FX.go (P:Program) (w:World) (base:Heap) {K:PySem.W.Frag} {n:Str} {i k:Nat} {f:Addr} {cd:Value} {h:Heap} {mg:A2} {ps:List Str} {sp:Sp} (X:K.In h) (G:h.Ns mainGlobals mg) (x:FX K n i f cd) (o:∀fd,Fun K n n (top i) f fd->mg n=some (.ref f)->iB K fd ps []->FnOk P w K mg base CX0 k f fd ps sp)
  (hb:∀(kV doc pm:Value) (an:Option Addr) (cdv ct:Value) (us:List Value),us.length=ps.length->bindArgs (PySem.W.fnOf n n (cF (top i)) (bV (top i)) (av (top i)) .none kV doc pm an cdv ct) ⟨us,[]⟩=pure (ps.zip us):=by intro _ _ _ _ _ _;first|exact bn1 λ_=>rfl|exact bn2 λ_ _=>rfl|exact bn3 λ_ _ _=>rfl):Fn P w K mg base n ps k sp:=by
 obtain⟨fd,F,m⟩:=x.fn X G;have b:=F.binds hb;exact⟨f,fd,o fd F m b,m,x.k,b⟩
theorem xB {l:PySem.W.OpenLaw} {w:World} {K:PySem.W.Frag} {h:Heap} {mg:A2} {fa:Addr} (X:K.In h) (G:h.Ns mainGlobals mg) (hfa:mg "law" = some (.ref fa))
  (aT:PySem.W.nsIn K mainGlobals "TURNED" = some (some (.ref 15))) (tab:gt K 15 [("0", .flat (.str "1")),("1", .flat (.str "0"))])
  (aS:PySem.W.nsIn K mainGlobals "SIGNS_AHEAD" = some (some (.ref 71))) (tabS:gt K 71 [("+", .flat (.str "0")),("-", .flat (.str "1"))])
  (cn0:PySem.W.nsIn K mainGlobals "LETTERS" = some (some (.str "abcdefghijklmnopqrstuvwxyz" 189)))
  (cn1:PySem.W.nsIn K mainGlobals "MOST_LETTERS" = some (some (.int 8 191)))
  (cn2:PySem.W.nsIn K mainGlobals "MOST_NODES" = some (some (.int 40 250)))
  (cn3:PySem.W.nsIn K mainGlobals "MOST_WIRES" = some (some (.int 5 269)))
  (x0:FX K "is_name" 4 20 (.ref 19)) (x1:FX K "is_pair" 5 27 (.ref 26)) (x2:FX K "is_whole" 6 34 (.ref 33)) (x3:FX K "is_number_below" 7 41 (.ref 40)) (x4:FX K "is_row" 8 46 (.ref 45)) (x5:FX K "are_unlike_names" 9 51 (.ref 50)) (x6:FX K "turned_at" 10 58 (.ref 57)) (x7:FX K "has_wires" 13 63 (.ref 62)) (x8:FX K "row_behind" 14 70 (.ref 69)) (x9:FX K "is_ring_turn" 18 78 (.ref 77)) (x10:FX K "is_arc" 19 85 (.ref 84)) (x11:FX K "waiting_turns" 20 90 (.ref 89)) (x12:FX K "are_arcs" 21 95 (.ref 94)) (x13:FX K "is_ring_sheet" 22 102 (.ref 101)) (x14:FX K "first_marks" 23 107 (.ref 106)) (x15:FX K "may_come" 24 112 (.ref 111)) (x16:FX K "mark_behind" 25 119 (.ref 118)) (x17:FX K "marks_behind" 26 124 (.ref 123)) (x18:FX K "steps_at" 27 131 (.ref 130)) (x19:FX K "odd_word" 28 138 (.ref 137)) (x20:FX K "unfolded" 29 145 (.ref 144)) (x21:FX K "_law_pool" 31 152 (.ref 151)) (x22:FX K "_law_take" 32 159 (.ref 158)) (x23:FX K "_law_names" 33 164 (.ref 163)) (x24:FX K "_law_order" 34 171 (.ref 170)) (x25:FX K "_law_arcs" 35 176 (.ref 175)) (x26:FX K "_law_ring" 36 181 (.ref 180)) (x27:FX K "_law_renamed" 37 186 (.ref 185)) (x28:FX K "_law_flipped" 38 193 (.ref 192)) (x29:FX K "_law_led" 39 198 (.ref 197)) (x30:FX K "law" 40 205 (.ref 204))
  (z0:ZN K "len") (z1:ZN K "range") (z2:ZN K "max") (z3:ZN K "min") (z4:ZN K "int") (z5:ZN K "list") (z6:ZN K "str") (z7:ZN K "isinstance") (z8:ZN K "all") (z9:ZN K "set") (z10:ZN K "dict") (z11:ZN K "enumerate") (z12:ZN K "sorted") (z13:ZN K "tuple") (z14:ZN K "bool") (z15:ZN K "zip") (z16:ZN K "reversed")
  : ∃fd:FuncData,(∀(s:Shared) (v:Value),BindsTo s fd ⟨[v],[]⟩ [("script", v)])/\∀base:Heap,K.In base->base.Ns mainGlobals mg->L2.f7 base mg->FnOk l.prog w K mg base CX0 7 fa fd ["script"] (on K ):=by
 have e:=hfa.symm.trans (PySem.W.mg_of X G x30.a);cases e;have T:Txt K mg 15:=⟨QY X G z0,QY X G z1,QY X G z2,QY X G z3,QY X G z4,QY X G z5,QY X G z6,QY X G z7,QY X G z8,QY X G z9,QY X G z10,QY X G z11,QY X G z12,QY X G z13,QY X G z14,QY X G z15,QY X G z16,⟨_,PySem.W.mg_of X G cn0⟩,⟨_,PySem.W.mg_of X G cn1⟩,⟨_,PySem.W.mg_of X G cn2⟩,⟨_,PySem.W.mg_of X G cn3⟩,⟨_,PySem.W.mg_of X G aS,tabS⟩,PySem.W.mg_of X G aT,tab⟩;obtain⟨a30,⟨_,_,kV,dc,pm,an,ct,_,l30⟩,c30,k30⟩:=x30;have m30:=PySem.W.mg_of X G a30;have F30:=tL (st:=top 40) l30 c30 k30;have b30:=F30.binds (ps:=["script"]) λ_ _ _ _ _ _ us hl=>by obtain⟨_,rfl⟩:=vV hl;rfl
 refine⟨PySem.W.fnOf "law" "law" (cF (top 40)) (bV (top 40)) (av (top 40)) .none kV dc pm an (.ref 204) ct,λs v=>.of_eq rfl,λbase KB _ BM=>?_⟩;have g21:=x21.go l.prog w base X G λ_ F _ _=>uH F T;have g22:=x22.go l.prog w base X G λ_ F _ _=>uF F T;have g23:=x23.go l.prog w base X G λ_ F _ _=>qq F T g22;have g24:=x24.go l.prog w base X G λ_ F _ _=>sI F T g22;have g25:=x25.go l.prog w base X G λ_ F _ _=>uL F T g22;have g26:=x26.go l.prog w base X G λ_ F _ _=>uG F T g22 g23 g24 g25;have g14:=x14.go l.prog w base X G λ_ F _ _=>sM F T;have g11:=x11.go l.prog w base X G λ_ F _ _=>uE F T;have g15:=x15.go l.prog w base X G λ_ F _ _=>wU F T;have g16:=x16.go l.prog w base X G λ_ F _ _=>uK F T;have g17:=x17.go l.prog w base X G λ_ F _ _=>sJ F T g16;have g6:=x6.go l.prog w base X G λ_ F _ _=>qp F T;have g8:=x8.go l.prog w base X G λ_ F _ _=>qt F T g6;have g18:=x18.go l.prog w base X G λ_ F _ _=>sG F T g11 g15 g17 g8;have g19:=x19.go l.prog w base X G λ_ F _ _=>wT F T;have g20:=x20.go l.prog w base X G λ_ F _ _=>wR F T g14 g18 g19;have g27:=x27.go l.prog w base X G λ_ F _ _=>mX F T;have g29:=x29.go l.prog w base X G λ_ F _ _=>sK F T;have g28:=x28.go l.prog w base X G λ_ F _ _=>lB F T;have g0:=x0.go l.prog w base X G λ_ F _ _=>uJ F T;have g5:=x5.go l.prog w base X G λ_ F _ _=>qo F T g0;have g4:=x4.go l.prog w base X G λ_ F _ _=>wS F T;have g7:=x7.go l.prog w base X G λ_ F _ _=>qm F T g5 g4;have g1:=x1.go l.prog w base X G λ_ F _ _=>uI F T;have g9:=x9.go l.prog w base X G λ_ F _ _=>sH F T g1;have g2:=x2.go l.prog w base X G λ_ F _ _=>sF F T;have g3:=x3.go l.prog w base X G λ_ F _ _=>sN F T g2;have g10:=x10.go l.prog w base X G λ_ F _ _=>wW F T g9 g3;have g12:=x12.go l.prog w base X G λ_ F _ _=>sO F T g10 g11;have g13:=x13.go l.prog w base X G λ_ F _ _=>qr F T g7 g12;exact sL F30 T g21 g26 g20 g23 g27 g29 g22 g28 g13
theorem yG {l:PySem.W.OpenLaw} {q:Program} {loose:List Str} {XP:A2->Heap->Prop} {d:DefRec} {K:Params->PySem.W.Frag} {as:A3} {e:∀P,as=(K P).map (·.1)} (hn:l.most=some 63) (hdf:d.params.defaults=[]) (ok:∀w:World,fj (K w.params) []=true)
  (F:∀(w:World) (mg:A2) (fa:Addr) (h:Heap),(K w.params).In h->h.Ns mainGlobals mg->mg d.name=some (.ref fa) ->
   ∃fd:FuncData,(∀(s:Shared) (u:Value),BindsTo s fd ⟨[u],[]⟩ [("script", u)])/\∀base:Heap,(K w.params).In base->base.Ns mainGlobals mg->L2.f7 base mg->FnOk l.prog w (K w.params) mg base CX0 7 fa fd ["script"] (on (K w.params) )) :
  PySem.W.WalkO q loose XP (PySem.W.kmHook K as e []).says l.row.toRowW d [] (λf vs=>PySem.call f vs) :=
 L2.rf (n:=63) (k:=7) (x := "script") (CX:=λ_=>CX0) (sp:=λw=>on (K w.params) ) hn (by decide) hdf ⟨rfl,by decide,by decide⟩ ok F (λ_ _ a ns hl hT hS=>⟨a,ns,rfl,hS,hl,λ_=>rfl⟩) λ_ _ _ _ _ z=>z
end K2
open PySem PySem.W PyProof.Rows
set_option maxRecDepth 100000 in
set_option maxHeartbeats 0 in
theorem PySem.Challenge.cw_anydelay_k55_whole_ring_sheets_otherwise_holds : PySem.Challenge.rw_anydelay_k55_whole_ring_sheets_otherwise.Holds := by
 w_on;refine holds_law K2.sd λsaid=>?_
 refine holds_open (q:=K2.vw) (loose:=[("TURNED" : Str),("SIGNS_AHEAD" : Str)]) (Xt:=λs=>xlAt K2.vw [] s&&recOk (RowW.records PySem.Challenge.rw_anydelay_k55_whole_ring_sheets_otherwise.row.toRowW) s) (XP:=XL K2.vw []) (Yf:=Hook.obs K2.hk) (Ya:=Hook.val K2.hk) (YP:=Hook.says K2.hk) (N:=2256) K2.left (Hook.of K2.hk) (Hook.keeps K2.hk) (λs e=>xl_of s (Bool.and_eq_true_iff.mp e).1) XL.keeps (by rfl) (by rfl) (by rfl) (λs e=>recFacts_of (Bool.and_eq_true_iff.mp e).2) (by rfl) (by first|assumption|decide +kernel) (by decide +kernel) ⟨rfl,rfl,rfl,rfl,rfl,by decide +kernel⟩ ?hw ?hc
 (case hw=>w_witness2)
 refine K2.yG (l:=PySem.Challenge.rw_anydelay_k55_whole_ring_sheets_otherwise) (K:=K2.KF) (as:=[3,15,19,20,26,27,33,34,40,41,45,46,50,51,57,58,62,63,69,70,71,77,78,84,85,89,90,94,95,101,102,106,107,111,112,118,119,123,124,130,131,137,138,144,145,151,152,158,159,163,164,170,171,175,176,180,181,185,186,192,193,197,198,204,205]) (e:=λ_=>rfl) rfl rfl (λw=>by kernel_rfl) ?F
 case F =>
  intro w mg fa h KX G hmg;refine' K2.xB KX G hmg ?_ ?_ ?_ ?_ ?_ ?_ ?_ ?_ ?_ ?_ ?_ ?_ ?_ ?_ ?_ ?_ ?_ ?_ ?_ ?_ ?_ ?_ ?_ ?_ ?_ ?_ ?_ ?_ ?_ ?_ ?_ ?_ ?_ ?_ ?_ ?_ ?_ ?_ ?_ ?_ ?_ ?_ ?_ ?_ ?_ ?_ ?_ ?_ ?_ ?_ ?_ ?_ ?_ ?_ ?_ ?_
  all_goals first|exact⟨by kernel_rfl,⟨_,_,_,_,_,_,_,_,rfl⟩,by kernel_rfl,by kernel_rfl⟩|kernel_rfl|rfl|decide|decide +kernel
