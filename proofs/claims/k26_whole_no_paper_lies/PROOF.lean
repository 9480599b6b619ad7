import PyProof.Rows.All
import Wide.All
import OpenK.AllK
import Wide.FinOn
import Lean
import PyProof.EqAt
import PyProof.EqKinds
import PyProof.TupleCall
import PyProof.NeKinds
import KE.KTabLook
import KE.KIntText
import KE.KUnpack
import PyProof.StrBlock2
import KE.KLam
import PyProof.Rows.SortShellK
import PyProof.Rows.SortKeyStr
import KE.KDictSum
import KE.KItemsList
import PyProof.Rows.SortStr
import KE.KDictLaws
import PyProof.DictWalks
import PyProof.Rows.StrInSeq3
import PyProof.FactsAll.list_1
import PyProof.ZipIter
import PyProof.Draws
import PyProof.AttrMissHeap
import PyProof.DictUpdate
import PyProof.ListNew
import PyProof.FactsAll.dict_1
import PyProof.Rows.DictSet
import PyProof.ForAppend
import KE.KRevSl
import PyProof.Rows.StrNews
import PyProof.StrLawsTight
import KE.KRevIter
import PyProof.ListRange
import PyProof.DictItemsLoops
import PyProof.CompUse
import PyProof.EnumMake
import PyProof.Rows.CallKwBuiltin
import OpenK.KMore
import PyProof.Rows.SeqIn
import KE.KSortTup
import KE.KDictList
import PyProof.PureStr
import PyProof.FitsStr
import KE.KEqDict
import PyProof.ConsumeS
import PyProof.WalkInts
import PyProof.SeqI3
import PySem.Challenge.RW_anydelay_k26_whole_no_paper_lies
import KE.BitLaws
local macro_rules|`({$xs:term,*})=>`(⟨$xs,*⟩)
local macro_rules|`(⋯)=>`(by omega)
namespace PySem
abbrev F1:=Value->Shared->Prop
abbrev F2:=List (Addr × Obj)
abbrev F3:=Str->Option Value
abbrev F4:=List Addr
end PySem
set_option linter.all false
set_option maxRecDepth 100000
set_option Elab.async false
abbrev Qa:=@List.length_map
abbrev Qb:=@PySem.wpAny_bind
abbrev Qc:=@List.getElem?_eq_getElem
abbrev Qd:=@PySem.Heap.get?_push_of_some
abbrev Qe:=@List.getElem?_eq_some_iff
abbrev Qf:=@PySem.wpAny_pure
abbrev Qg:=@List.mem_of_getElem?
abbrev Qh:=@Nat.le_refl
abbrev Qi:=@List.getElem?_map
abbrev Qj:=@List.mem_map
abbrev Qk:=@List.length_append
abbrev Ql:=@PySem.Heap.lt_size
abbrev Qm:=@List.size_toArray
abbrev Qn:=@Bool.false_ne_true
abbrev Qo:=@List.mem_iff_getElem
abbrev Qp:=@List.mem_append
abbrev Qq:=@PySem.Heap.get?_push_size
abbrev Qr:=@List.mem_singleton
abbrev Qs:=@Array.length_toList
abbrev Qt:=@List.map_append
abbrev Qu:=@PyProof.Rows.wpS_bind
abbrev Qv:=@List.length_take
abbrev Qw:=@List.take_of_length_le
abbrev Qx:=@List.mem_cons_of_mem
abbrev Qy:=@PyProof.Rows.wpS_pure
abbrev Qz:=@Nat.ne_of_lt
abbrev QA:=@Array.getElem?_toList
abbrev QB:=@PySem.F.plainAttrs_list
abbrev QC:=@PySem.F.slot_list_append
abbrev QE:=@PySem.F.type_list_append
abbrev QF:=@List.getElem?_append_left
abbrev QG:=@Nat.zero_le
abbrev QH:=@List.getElem?_append_right
abbrev QI:=@if_neg
abbrev QJ:=@PySem.boot_len
abbrev QK:=@Nat.lt_of_lt_of_le
abbrev QL:=@if_pos
abbrev QM:=@List.map_cons
abbrev QN:=@List.all_eq_true
abbrev QO:=@List.mem_cons
abbrev QP:=@Array.toList_append
abbrev QQ:=@List.getD_eq_getElem?_getD
abbrev QR:=@List.mem_append_right
abbrev QS:=@List.length_cons
abbrev QT:=@List.map_map
abbrev QU:=@Bool.false_eq_true
abbrev QV:=@List.take_succ
abbrev QW:=@PySem.W.mg_none_of
abbrev QX:=@Nat.le_trans
abbrev QY:=@decide_eq_false
abbrev QZ:=@List.take_append_drop
abbrev Q0:=@Option.some.inj
abbrev Q2:=@PySem.wpAny_holding
abbrev Q3:=@PySem.Heap.get?_update_other
abbrev Q4:=@List.nodup_cons
abbrev Q5:=@Array.getElem?_eq_getElem
abbrev Q6:=@List.lookup_cons
abbrev Q7:=@Array.getElem?_eq_some_iff
abbrev Q8:=@List.eq_nil_of_length_eq_zero
abbrev Q9:=@List.length_drop
abbrev Xa:=@List.append_assoc
abbrev Xb:=@List.getElem?_eq_none
abbrev Xc:=@decide_eq_true
abbrev Xd:=@PySem.Heap.size_push
abbrev Xe:=@PyProof.Rows.callWith_type1
abbrev Xf:=@List.pairwise_append
abbrev Xg:=@PySem.Around.under_plainId
abbrev Xh:=@Int.toNat_natCast
abbrev Xi:=@Bool.eq_false_iff
abbrev Xj:=@List.mem_cons_self
abbrev Xk:=@PySem.wpAny_setField_rec
abbrev Xl:=@List.length_eq_zero_iff
abbrev Xm:=@Bool.and_eq_true
abbrev Xo:=@List.getElem_mem
abbrev Xp:=@PySem.wpAny_mono
abbrev Xq:=@PyProof.Rows.boot_sorted
abbrev Xr:=@PySem.wpAny_field
abbrev Xs:=@PySem.codeAny_builtin
abbrev Xu:=@Array.size_append
abbrev Xv:=@PyProof.Rows.wpS_forRange
abbrev Xw:=@PyProof.Rows.boot_isinstance
abbrev Xx:=@PySem.sizeLine_eq
abbrev Xy:=@Nat.le_of_lt
abbrev Xz:=@List.nodup_append
abbrev XA:=@Nat.add_sub_cancel_left
abbrev XB:=@Nat.lt_of_le_of_lt
abbrev XC:=@decide_eq_true_iff
abbrev XD:=@PySem.W.kia_one
abbrev XE:=@Nat.ne_of_gt
abbrev XF:=@PySem.wpAny_call_entry
abbrev XG:=@PySem.Heap.SameBut.update
abbrev XH:=@Ne.symm
abbrev XI:=@of_decide_eq_true
abbrev XJ:=@List.pairwise_map
abbrev XM:=@PySem.Heap.get?_update_self
abbrev XN:=@PySem.builtinLookup_eq_fast
abbrev XO:=@PySem.Txt.slice_le
abbrev XQ:=@PyProof.Rows.KeyOrd.kle_refl
abbrev XR:=@PySem.wpAny_rule
abbrev XS:=@PySem.Obj.data_mapFields
abbrev XT:=@Option.toList_some
abbrev XU:=@Int.emod_lt_of_pos
abbrev XV:=@List.mem_append_left
abbrev XW:=@PySem.wpAny_callSpecial?_slot
local macro_rules|`(tactic|z_go)=>`(tactic|first|exact .inl rfl|exact .inr rfl|assumption)
noncomputable section
namespace L2
open PySem
def dI (s:Stmt):Arguments:=match s with
 | .FunctionDef _ a _ _ _ _ _ _ _ _=>a
 | _=>{ posonlyargs:=[],args:=[],vararg:=none,kwonlyargs:=[],kw_defaults:=[],kwarg:=none,defaults:=[] }
def cJ (s:Stmt):List Stmt:=match s with
 | .FunctionDef _ _ b _ _ _ _ _ _ _=>b
 | _=>[]
def aB (s:Stmt):Scope:=match s with
 | .FunctionDef _ _ _ _ _ _ sc _ _ _=>sc
 | _=>{ kind:=.function,names:=[],isGenerator:=false,isCoroutine:=false }
end L2
namespace K2
open PySem L2 PySem.W
def top (i:Nat):Stmt:=PySem.Challenge.pw_anydelay_k26_whole_no_paper_lies.main.body.getD i (.Pass {0,0,0,0})
noncomputable def kC (n:Str) (t:Nat) (l a fl:Int) (r:Addr) (x y:Value) (z:Addr) (u:Nat):Obj:={ cls:=.type "code", data:=.fields #[.str n t,.str n (t+1),.str "/claim/cut.py" (t+2),.int l 0,.int a 0,.int 0 0,.int 0 0,.int 3 0,.ref r,.bool true,.int fl 0,.ref (r+1),.none,x,y,.ref z,.int u 0,.int l 0,.str "/claim/cut.py" (u+1)] }
noncomputable def kF (n:Str) (i:Nat) (m:Str) (t:Nat) (c:Addr):Obj:={ cls:=.type "function", data:=.func { name:=n,qualname:=n,params:=dI (top i),body:=.stmts (cJ (top i)),scope:=aB (top i),globals:=3,closure:=[],defaults:=.none,kwdefaults:=.none,pyModule:=.str m t,code:=.ref c } }
def kE (P:Params) (x:Str) (t:Nat) (v:Value):DictEntry:={ hash:=PyData.keyHash P x,key:=.str x t,val:=v }
noncomputable def KF (P:Params):Frag:=[(3,{ cls:=.type "dict", data:=.dict #[kE P "__name__" 165 (.str "law_anydelay_k26_whole_no_paper_lies" 431),kE P "__doc__" 166 .none,kE P "__package__" 167 .none,kE P "__loader__" 168 (.builtin "__main__.__loader__#opaque"),kE P "__spec__" 169 .none,kE P "__annotations__" 170 (.ref 6),kE P "__builtins__" 171 (.ref 4),kE P "__file__" 173 (.str "/claim/cut.py" 172),kE P "__cached__" 174 .none,kE P "NetError" 206 (.ref 24),kE P "NoStanding" 222 (.ref 37),kE P "TURNED" 231 (.ref 40),kE P "is_pair" 238 (.ref 47),kE P "is_whole" 245 (.ref 54),kE P "is_row" 251 (.ref 59),kE P "gates_of" 257 (.ref 64),kE P "wires_of" 264 (.ref 71),kE P "is_standing" 272 (.ref 78),kE P "check_standing" 280 (.ref 85),kE P "rule_holds" 289 (.ref 92),kE P "rule_worth" 297 (.ref 99),kE P "signs_in" 305 (.ref 106),kE P "turned_at" 313 (.ref 113),kE P "steps_from" 325 (.ref 120),kE P "found_from" 342 (.ref 127),kE P "steps_found" 351 (.ref 134),kE P "rests_in" 357 (.ref 139),kE P "is_paper" 365 (.ref 144),kE P "is_closed" 371 (.ref 149),kE P "standings_ahead" 379 (.ref 154),kE P "most_switchings" 385 (.ref 159),kE P "one_rest" 395 (.ref 166),kE P "rest_paper" 405 (.ref 173),kE P "is_numbered" 412 (.ref 180),kE P "is_rest_paper" 418 (.ref 185),kE P "is_falling" 424 (.ref 190),kE P "rest_shows" 430 (.ref 195),kE P "_law_draws" 446 (.ref 202),kE P "_law_names" 452 (.ref 207),kE P "_law_rule" 465 (.ref 214),kE P "_law_held" 474 (.ref 221),kE P "_law_known" 480 (.ref 226),kE P "_law_deeper" 494 (.ref 233),kE P "_law_net" 512 (.ref 240),kE P "_law_standing" 518 (.ref 245),kE P "_law_holds" 528 (.ref 252),kE P "_law_asked" 534 (.ref 257),kE P "_law_order" 551 (.ref 264),kE P "_law_ways" 557 (.ref 269),kE P "_law_levels" 571 (.ref 276),kE P "_law_one" 577 (.ref 281),kE P "_law_papers" 583 (.ref 286),kE P "_law_bent" 600 (.ref 293),kE P "law" 606 (.ref 298)] 54 }),
 (40,{ cls:=.type "dict", data:=.dict #[kE P "0" 225 (.str "1" 226),kE P "1" 227 (.str "0" 228)] 2 }),
 (46,kC "is_pair" 232 8 1 181 41 (.ref 43) (.ref 44) 45 236),
 (47,kF "is_pair" 5 "anydelay.nets" 223 46),
 (53,kC "is_whole" 239 10 1 181 48 (.ref 50) (.ref 51) 52 243),
 (54,kF "is_whole" 6 "anydelay.nets" 223 53),
 (58,kC "is_row" 246 12 2 181 55 .none .none 57 249),
 (59,kF "is_row" 7 "anydelay.nets" 223 58),
 (63,kC "gates_of" 252 16 1 181 60 .none .none 62 255),
 (64,kF "gates_of" 8 "anydelay.nets" 223 63),
 (70,kC "wires_of" 258 18 1 181 65 (.ref 67) (.ref 68) 69 262),
 (71,kF "wires_of" 9 "anydelay.nets" 223 70),
 (77,kC "is_standing" 265 20 2 181 72 (.ref 74) (.ref 75) 76 270),
 (78,kF "is_standing" 10 "anydelay.nets" 223 77),
 (84,kC "check_standing" 273 22 2 181 79 (.ref 81) (.ref 82) 83 278),
 (85,kF "check_standing" 11 "anydelay.nets" 223 84),
 (91,kC "rule_holds" 281 25 2 181 86 (.ref 88) (.ref 89) 90 287),
 (92,kF "rule_holds" 12 "anydelay.nets" 223 91),
 (98,kC "rule_worth" 290 34 2 181 93 (.ref 95) (.ref 96) 97 295),
 (99,kF "rule_worth" 13 "anydelay.nets" 223 98),
 (105,kC "signs_in" 298 36 2 181 100 (.ref 102) (.ref 103) 104 303),
 (106,kF "signs_in" 14 "anydelay.nets" 223 105),
 (112,kC "turned_at" 306 38 2 181 107 (.ref 109) (.ref 110) 111 311),
 (113,kF "turned_at" 15 "anydelay.nets" 223 112),
 (119,kC "steps_from" 314 40 2 181 114 (.ref 116) (.ref 117) 118 323),
 (120,kF "steps_from" 16 "anydelay.nets" 223 119),
 (126,kC "found_from" 328 48 2 181 121 (.ref 123) (.ref 124) 125 340),
 (127,kF "found_from" 18 "anydelay.orders" 326 126),
 (133,kC "steps_found" 343 63 2 181 128 (.ref 130) (.ref 131) 132 349),
 (134,kF "steps_found" 19 "anydelay.orders" 326 133),
 (138,kC "rests_in" 352 65 1 181 135 .none .none 137 355),
 (139,kF "rests_in" 20 "anydelay.orders" 326 138),
 (143,kC "is_paper" 360 68 2 181 140 .none .none 142 363),
 (144,kF "is_paper" 22 "anydelay.races" 358 143),
 (148,kC "is_closed" 366 72 1 181 145 .none .none 147 369),
 (149,kF "is_closed" 23 "anydelay.races" 358 148),
 (153,kC "standings_ahead" 374 78 1 181 150 .none .none 152 377),
 (154,kF "standings_ahead" 25 "anydelay.onerest" 372 153),
 (158,kC "most_switchings" 380 84 1 181 155 .none .none 157 383),
 (159,kF "most_switchings" 26 "anydelay.onerest" 372 158),
 (165,kC "one_rest" 386 99 2 181 160 (.ref 162) (.ref 163) 164 393),
 (166,kF "one_rest" 27 "anydelay.onerest" 372 165),
 (172,kC "rest_paper" 396 106 2 181 167 (.ref 169) (.ref 170) 171 403),
 (173,kF "rest_paper" 28 "anydelay.onerest" 372 172),
 (179,kC "is_numbered" 406 113 1 181 174 (.ref 176) (.ref 177) 178 410),
 (180,kF "is_numbered" 29 "anydelay.onerest" 372 179),
 (184,kC "is_rest_paper" 413 115 2 181 181 .none .none 183 416),
 (185,kF "is_rest_paper" 30 "anydelay.onerest" 372 184),
 (189,kC "is_falling" 419 119 2 181 186 .none .none 188 422),
 (190,kF "is_falling" 31 "anydelay.onerest" 372 189),
 (194,kC "rest_shows" 425 124 4 181 191 .none .none 193 428),
 (195,kF "rest_shows" 32 "anydelay.onerest" 372 194),
 (201,kC "_law_draws" 433 134 2 181 196 (.ref 198) (.ref 199) 200 444),
 (202,kF "_law_draws" 34 "law_anydelay_k26_whole_no_paper_lies" 431 201),
 (206,kC "_law_names" 447 157 2 181 203 .none .none 205 450),
 (207,kF "_law_names" 35 "law_anydelay_k26_whole_no_paper_lies" 431 206),
 (213,kC "_law_rule" 453 179 4 181 208 (.ref 210) (.ref 211) 212 463),
 (214,kF "_law_rule" 36 "law_anydelay_k26_whole_no_paper_lies" 431 213),
 (220,kC "_law_held" 466 189 3 181 215 (.ref 217) (.ref 218) 219 472),
 (221,kF "_law_held" 37 "law_anydelay_k26_whole_no_paper_lies" 431 220),
 (225,kC "_law_known" 475 191 3 181 222 .none .none 224 478),
 (226,kF "_law_known" 38 "law_anydelay_k26_whole_no_paper_lies" 431 225),
 (232,kC "_law_deeper" 481 206 4 181 227 (.ref 229) (.ref 230) 231 492),
 (233,kF "_law_deeper" 39 "law_anydelay_k26_whole_no_paper_lies" 431 232),
 (239,kC "_law_net" 495 214 2 181 234 (.ref 236) (.ref 237) 238 510),
 (240,kF "_law_net" 40 "law_anydelay_k26_whole_no_paper_lies" 431 239),
 (244,kC "_law_standing" 513 235 2 181 241 .none .none 243 516),
 (245,kF "_law_standing" 41 "law_anydelay_k26_whole_no_paper_lies" 431 244),
 (251,kC "_law_holds" 519 237 2 181 246 (.ref 248) (.ref 249) 250 526),
 (252,kF "_law_holds" 42 "law_anydelay_k26_whole_no_paper_lies" 431 251),
 (256,kC "_law_asked" 529 247 2 181 253 .none .none 255 532),
 (257,kF "_law_asked" 43 "law_anydelay_k26_whole_no_paper_lies" 431 256),
 (263,kC "_law_order" 535 257 5 181 258 (.ref 260) (.ref 261) 262 549),
 (264,kF "_law_order" 44 "law_anydelay_k26_whole_no_paper_lies" 431 263),
 (268,kC "_law_ways" 552 267 2 181 265 .none .none 267 555),
 (269,kF "_law_ways" 45 "law_anydelay_k26_whole_no_paper_lies" 431 268),
 (275,kC "_law_levels" 558 276 2 181 270 (.ref 272) (.ref 273) 274 569),
 (276,kF "_law_levels" 46 "law_anydelay_k26_whole_no_paper_lies" 431 275),
 (285,kC "_law_papers" 578 294 4 181 282 .none .none 284 581),
 (286,kF "_law_papers" 48 "law_anydelay_k26_whole_no_paper_lies" 431 285),
 (292,kC "_law_bent" 584 308 3 181 287 (.ref 289) (.ref 290) 291 598),
 (293,kF "_law_bent" 49 "law_anydelay_k26_whole_no_paper_lies" 431 292),
 (297,kC "law" 601 320 1 181 294 .none .none 296 604),
 (298,kF "law" 50 "law_anydelay_k26_whole_no_paper_lies" 431 297)]
noncomputable def hk:Hook:=kmHook KF [3,40,46,47,53,54,58,59,63,64,70,71,77,78,84,85,91,92,98,99,105,106,112,113,119,120,126,127,133,134,138,139,143,144,148,149,153,154,158,159,165,166,172,173,179,180,184,185,189,190,194,195,201,202,206,207,213,214,220,221,225,226,232,233,239,240,244,245,251,252,256,257,263,264,268,269,275,276,285,286,292,293,297,298] (λ_=>rfl) [129]
noncomputable def vw:Program:={ PySem.Challenge.pw_anydelay_k26_whole_no_paper_lies with main:={ PySem.Challenge.pw_anydelay_k26_whole_no_paper_lies.main with body:=[1,2,4,5,6,7,8,9,10,11,12,13,14,15,16,18,19,20,22,23,25,26,27,28,29,30,31,32,34,35,36,37,38,39,40,41,42,43,44,45,46,47,48,49,50].map top } }
def LW (w:World):Prop:=(openEnds treeTable PySem.Challenge.rw_anydelay_k26_whole_no_paper_lies.prog w 3622).map (λs=>(openSeen vw [("TURNED" : Str)] (importedModules PySem.Challenge.rw_anydelay_k26_whole_no_paper_lies.prog.main.body) (λs=>xlAt vw [] s&&recOk (RowW.records PySem.Challenge.rw_anydelay_k26_whole_no_paper_lies.row.toRowW) s) true s,Hook.obs hk s))=some (openGood vw [("TURNED" : Str)],Hook.val hk w)
set_option maxHeartbeats 0 in
theorem sdQ:PySem.Challenge.rw_anydelay_k26_whole_no_paper_lies.wellSaid=true:=by kernel_rfl
set_option maxHeartbeats 0 in
theorem DX:∀w:World,LW (w.withFollow "special-get-raises" false):=λw=>by unfold LW;kernel_rfl
set_option maxHeartbeats 0 in
theorem DW:∀w:World,LW (w.withFollow "special-get-raises" true):=λw=>by unfold LW;kernel_rfl
theorem left:LeftO PySem.Challenge.rw_anydelay_k26_whole_no_paper_lies.prog vw [("TURNED" : Str)] (λs=>xlAt vw [] s&&recOk (RowW.records PySem.Challenge.rw_anydelay_k26_whole_no_paper_lies.row.toRowW) s) (Hook.obs hk) (Hook.val hk) 3622:=λw=>byRow2 (P:=LW) "special-get-raises" DX DW w
end K2
section
variable {a b c d e f g h i j k l m n x r lo:Nat}
local macro_rules|`(tactic|walk_at "t")=>`(tactic|solve_by_elim (maxDepth := 3) [Xy,QK,XB,QX,Nat.lt_of_not_ge,Nat.lt_of_not_le,Nat.le_of_not_lt,Nat.ge_of_not_lt,Nat.le_add_right,Nat.le_add_left,Nat.sub_le,Nat.lt_succ_self,Nat.le_succ,Nat.add_le_add_left,Nat.add_le_add_right,Nat.add_lt_add_left,Nat.add_lt_add_right,Nat.succ_le_of_lt,Nat.lt_of_succ_le,Nat.le_of_eq,Nat.le_antisymm,Nat.lt_of_le_of_ne,Qh,QG,Nat.sub_lt,Nat.succ_le_succ,Nat.lt_succ_of_le,Nat.le_of_lt_succ,Eq.symm,Eq.trans])
local macro_rules|`(tactic|kd_p)=>`(tactic|(intros;first|walk_at "t"|(subst_vars;walk_at "t")))
theorem om0:a<=b->¬a<b->a=b:=by grind
theorem om1:a-b<=a-b:=by simp_all
theorem om2:¬b<a->a<=b:=by kd_p
theorem om3:c=b->b=d->a<c->a<b:=by kd_p
theorem om4:c<=b->c=a->a<=b:=by kd_p
theorem om5:a+1≠a:=by simp_all
theorem om6:b<a->a-(b+1)<a-b:=by omega
theorem om7:c=d->c=a->d=b->a=b:=by kd_p
theorem om8:a+(c+1)<b->a<b:=by grind
theorem om9:b=c->b=d->c=e->a<d->a<b:=by intros;simp_all
theorem E9:c=b->c=d->b=e->a<d->a<b:=by intros;simp_all
theorem DL:a+(b+1)<c->a+1+b<c:=by omega
theorem Az:b=c->a<c->a<b:=by kd_p
theorem Du:a<c->b=c->a<b:=by kd_p
theorem Di:c=a->d=b->c=d->a=b:=by kd_p
theorem xT:a+64<b->a<b:=by grind
theorem C4:a+64<b->a+1+8<b:=by grind
theorem Ay:c=b->a<c->a<b:=by kd_p
theorem v6:b<=100000->a=b->a<=16777216:=by grind
theorem E8:b<=a->a<=c->a-b<=c-0:=by grind
theorem E7:a<b->a+(b-a) / 2+1<=b:=by grind
theorem E6:a<b+(c-b) / 2+1->a<=b+(c-b) / 2:=by kd_p
theorem E5:b<=c->a<b->a+(b-a) / 2<c:=by grind
theorem E4:a<=a+(b-a) / 2:=by kd_p
theorem E3:b<=c->a<b->a+(b-a) / 2<=c:=by omega
theorem B0:a<=b->b-a<=c-max 0 c->a=b:=by grind
theorem E2:a<b->a+0<b:=by kd_p
theorem BX:a<c->¬b>=c-a->a+b<c:=by grind
theorem BT:a<2*a+1:=by grind
theorem E1:a<d->b<c->a+b<d->a+b+1<=a+min c (d-a):=by grind
theorem EZ:a<c->a+min b (c-a)<=c:=by grind
theorem EY:a<b+c+1->a<=b+c:=by kd_p
theorem EX:a<d->a+min b (d-a)<=c->b<d-a->a+b<=c:=by grind
theorem Ax:a<=b->a>=b->a=b:=by grind
theorem BS:b<=c->¬a>=b->a+(b-a) / 2<c:=by grind
theorem xS:¬a>=b->a<b:=by kd_p
theorem Aw:0<=a:=by kd_p
theorem EW:a<c->d<b->¬b>=a+1->a-b<c:=by grind
theorem EV:¬a>=b+1->a<=b:=by kd_p
theorem EU:c<b->c<=a->a+1-min b (a+1)<=a-c:=by omega
theorem ET:a<c->b<=a->a-b<=c:=by grind
theorem ES:a<b+1-min c (b+1)->c<b+1->a<=b-c:=by grind
theorem ER:a<c->d<b->b<a+1->a-b<c:=by grind
theorem EQ:a+1=b->a<b:=by kd_p
theorem EO:a+b+1=a+(b+1):=by kd_p
theorem uv:a<=b->a+1<=b+1:=by kd_p
theorem EN:a+b+1=a+1+b:=by grind
theorem BR:a<min b c->a<min b c:=by kd_p
theorem xR:a<min b c->a<b:=by grind
theorem BQ:a+b<=c->min (a+b) c-a=b:=by intros;simp_all
theorem EM:a+b+c=a+c+b:=by grind
theorem BP:c=d->a<=b->a<=b+c:=by grind
theorem EL:a+b+c=a+(b+c):=by grind
theorem BO:a<=b->¬a=b->a<b:=by grind
theorem BN:a+d<=c->b<d->a+b<c:=by grind
theorem EK:a+d<=c->b<=e->e<d->a+b<c:=by grind
theorem v5:a<=a+b:=by kd_p
theorem EJ:b<=c->a+b<=a+c:=by kd_p
theorem EI:b<c->a+b<a+c:=by kd_p
theorem v4:1<=a->0<a:=by kd_p
theorem BL:1<=a->0<=a:=by kd_p
theorem EH:1<=a->¬0+1=a->0+1<a:=by grind
theorem EG:1<=b->1<=a->¬1=a->¬0+1=b->1<a:=by grind
theorem Av:a+1<b->a<b:=by kd_p
theorem Au:a<b->¬a+1=b->a+1<b:=by omega
theorem xQ:a+1+(b+1)<=a+1+b+1:=by kd_p
theorem BK:a+1<b->¬a+1+1=b->a+1+1<b:=by omega
theorem EF:a+1<b->a+(b-a)<=b:=by grind
theorem EE:b+1<a->0<a-b:=by grind
theorem ED:a<b->a+1+(b-(a+1))<=b:=by omega
theorem EC:b<a->¬b+1=a->0<a-(b+1):=by omega
theorem BJ:a+1+(b+1)<=a+1+b+1+1:=by kd_p
theorem EB:a<c->b<=c-(a+1)->a+1+b<=c:=by grind
theorem BI:¬a>0->a=0:=by simp
theorem EA:b<a->¬b+1=a->0<=a-(b+1)->0<a-(b+1):=by grind
theorem Ez:a+1<c->b<=c-a->a+b<=c:=by grind
theorem Ey:b+1<a->0<=a-b->0<a-b:=by omega
theorem Ex:1<=a->a=a-1+1:=by intros;simp_all
theorem BH:1<=a->a<=b->a-1<=b:=by grind
theorem Ew:1<=b->a+b+c=d+e->a+1+(b-1)+c=d+e:=by grind
theorem Ev:1<=c->a+b+c=d+e->a+1+b+(c-1)=d+e:=by grind
theorem Eu:a<min b c-d->a<min b c-d:=by intros;simp_all
theorem BG:b<min c d-a->a+b<c:=by omega
theorem BF:c<=a->a<=b->min a b-c=a-c:=by intros;simp_all
theorem BE:a<=c->c<=b->a<=b:=by grind
theorem BD:c=d-e->a<=b->a<=b+c:=by grind
theorem uu:1<=a->a-1<a:=by grind
theorem Et:1<=b->1<=c->¬a=0->¬c=1->1<=a:=by grind
theorem As:1<=a->a<=b->a-1<b:=by omega
theorem Ar:2<=a->a<=b->a-1<b:=by grind
theorem v0:2<=a->1<=a:=by kd_p
theorem Bu:1<=a->¬a-1=0->1<=a-1:=by omega
theorem Bt:2<=a->¬a-1=1->2<=a-1:=by grind
theorem Es:a<=b->0+a<=b:=by grind
theorem Er:2<=a->a<=b->0+(a-1)<=b:=by grind
theorem Ep:2<=a->a-1-1<a-1:=by grind
theorem Eo:a<=b-1->a<=b-1:=by kd_p
theorem En:¬a=1->¬a=0->2<=a:=by grind
theorem Em:2<=a->c=a-1-b->¬c>0->a-1-1<b:=by omega
theorem Aq:a<=b->a<=b:=by simp
theorem DQ:¬a=0->1<=a:=by grind
theorem DP:1<=a->c=a-b->¬c>0->a-1<b:=by omega
theorem DO:a<=b->b<1->a=b:=by intros;simp_all
theorem zH:a<b+1->¬a<b->a=b:=by grind
theorem zF:a<=b->1<=b->¬a=b->a<=b-1:=by grind
theorem zE:1<=b->b<=a->1<=a:=by omega
theorem v8:a<b->a<=b:=by kd_p
theorem DN:a<=b->max a b=b:=by intros;simp_all
theorem DM:d<=a->b<d->¬(a<=b/\b<c):=by grind
theorem zD:1<=b->a+b-1=a+(b-1):=by grind
theorem DK:a<=b->¬a=b->max (a+1) b=b:=by grind
theorem sZ:a+d<=e->b<d->c=e->a+b<c:=by omega
theorem DJ:c+1<=b->a+b-1=a+(b-1):=by grind
theorem v7:b+1<=a->1<=a:=by grind
theorem zC:c+1<=b->a<=a+b-(c+1):=by omega
theorem DI:a+d<=e->b<d->c=e->a+b<=c:=by grind
theorem zB:0+1<=a+1:=by kd_p
theorem DH:b+1-(0+1)<=a->a<b+1->a=b+1-1:=by grind
theorem DF:a+1<=b->a+1+1<=b+1:=by kd_p
theorem DE:a+1-1=a:=by kd_p
theorem DC:a<b+1->¬a=b->a<b:=by omega
theorem DB:a+d<=e->b<=d->f=e->c=e->a+b<=c:=by grind
theorem DA:b<=d->d<c->a<=a+b/\a+b<a+c:=by grind
theorem Dz:b<c->a<=a+b/\a+b<a+c:=by intros;simp_all
theorem Dy:c<=b->b<a->a-1-b<=a-1-c:=by omega
theorem Dx:b<=c->c<a->a-1-b<a:=by grind
theorem Dw:b+1<=c->c<=a->1<=a:=by grind
theorem Dv:a+d<=e->b<=d->c=e->a+b<=c:=by grind
theorem Dt:1<=c->a+c<=b->a<b:=by grind
theorem Ds:b>1->a+b-1=a+(b-1):=by grind
theorem Dr:b>1->a<b->a<=b-1:=by grind
theorem Dq:a>1->a-1<a:=by omega
theorem Dp:a+d<=c->b<=d->a+b<=c:=by grind
theorem Do:a<=c->c<b->a<b:=by grind
theorem Dn:1<=c->¬c>1->a<=b->b<c->a=b:=by grind
theorem Dm:a<=b->b<min (max c 1) d->c=0->a=b:=by grind
theorem Dl:b<=c->a<min (max b 1) c->¬b=0->a<b:=by grind
theorem Dj:min (max (max a 1) b) b=b:=by grind
theorem Dh:a<b->min a b=a:=by grind
theorem Dg:a<=a:=by simp
theorem Df:a-0<=a-0:=by kd_p
theorem De:¬a>=b->a<=(a+b) / 2:=by grind
theorem Dd:b<=c->¬a>=b->(a+b) / 2<=c:=by grind
theorem Dc:¬a>=b->(a+b) / 2+1<=b:=by omega
theorem Db:a<(b+c) / 2+1->a<=(b+c) / 2:=by kd_p
theorem Da:b<=c->¬a>=b->(a+b) / 2<c:=by omega
theorem C_:c<=b->d<a->a+b-(a+c)<=a+b:=by kd_p
theorem C9:d<=c->a<b->¬a=b+c-(b+c-(b+d)):=by omega
theorem C8:a<b->min (a+1) b=a+1:=by grind
theorem zw:c<=b->a+b-(a+c)<=a+b:=by kd_p
theorem C7:c<=b->a+b-(a+b-(a+c))=a+c:=by grind
theorem C6:c<b->a+b-1=a+(b-1):=by grind
theorem zu:b<c->¬a+b=a+c:=by grind
theorem zt:c<b->¬(a+b<a+c/\a+c<=a+d):=by grind
theorem C5:c<=b->a<b+1->a<c->a<b:=by grind
theorem zq:b=c->a+b=a+c:=by kd_p
theorem zp:¬b=c->¬a+b=a+c:=by simp
theorem zo:¬b<a->¬b=a->a<b:=by grind
theorem C3:a<=b->a<c->¬b<c->a<=b-1:=by grind
theorem C2:c<=b->d<=a->a<b+1->d<c->a-1<b:=by omega
theorem C1:d=c->b=c->a+b=a+c:=by kd_p
theorem C0:d=c->¬b=c->¬a+b=a+c:=by intros;simp_all
theorem CZ:c<=b->c=a->¬b=a->a<b:=by omega
theorem CY:c<=b->c=a->¬b=a->a<=b-1:=by grind
theorem CW:c<=a->a<b+1->c=d->¬a=d->a-1<b:=by grind
theorem CV:d<=b->¬d<c->¬d=c->¬a+b=a+c:=by grind
theorem CU:c<=b->¬c<a->¬c=a->a<b:=by grind
theorem CS:a<=b->a-1<=b-1:=by omega
theorem CQ:c<=a->a<b+1->¬c<d->¬c=d->a-1<b:=by grind
theorem CP:c=a+b->¬a+b<c:=by intros;simp_all
theorem CO:c=a+b->a+b-c=0:=by intros;simp_all
theorem CN:a=b+c->a+1=b+(c+1):=by kd_p
theorem CM:¬a+1<a:=by simp
theorem CL:1<=b->d=a+(b+(e+f))->a<=a+b+c:=by grind
theorem CK:1<=a->d=b+(a+(e+f))->a<=b+a+c-b:=by grind
theorem CJ:a+b+c-a-b=c:=by grind
theorem CI:1<=b->c=d+(b+(e+f))->a<b->a<=b-1:=by grind
theorem CG:1<=d->c=a+(b+(d+e))->a+b<=c:=by kd_p
theorem CF:1<=a->b=c+(a+(d+e))->0<a:=by kd_p
theorem CD:a<=b->a+(b-a)=b:=by intros;simp_all
theorem CC:a<=c->c<=b->a+(b-a)=b:=by grind
theorem CB:b<=a->a<=c->a-b<=c-b:=by grind
theorem CA:c=d+(b+(e+f))->g<=b->a<g->a<b:=by grind
theorem Cz:1<=a->b=c+(a+(d+e))->a-1<a:=by grind
theorem Cy:d=a+(b+(c+e))->a+b+c<=d:=by grind
theorem zn:c<=b->a<c->a<b:=by grind
theorem Cw:a=0->a<=b:=by intros;simp_all
theorem Cv:d=a+(c+(e+f))->b<=c->a+min b c=a+b+0:=by intros;simp_all
theorem Cu:c<=d->e=c->a-b+min c d=a-b+c:=by intros;simp_all
theorem Ct:c=d->d<=b->a<d->a<=b:=by grind
theorem Cs:a<c->c<=b->a<=b:=by grind
theorem zm:a<min b (c-d)->a<b:=by grind
theorem Cr:a+1<b->min a b=a:=by grind
theorem Cq:b=c+a->max 0 b<=c->a=0:=by grind
theorem Cp:b=c->c=d+a->d>=c->a=0:=by grind
theorem Co:c=d->¬b>=d->d=b->a<=b:=by kd_p
theorem Cn:c=a->a=b+d->¬b>=a->1<=a-b:=by grind
theorem Cm:c=b->b=a+d->¬a>=b->a+(b-a)<=c:=by intros;simp_all
theorem Cl:a<=c->1<=d->e=c->b=c+d->a+1<=b:=by grind
theorem Ck:a=b->a>1->a-2+1<b:=by grind
theorem Cj:a=c+d->a+b=c+(d+b):=by grind
theorem Ci:a<=c->b≠0->a+1<=b+c:=by grind
theorem Ch:b=c->a<=c->a+0<=b+1:=by kd_p
theorem Cg:b=a->b<=1->a<=1:=by kd_p
theorem Cf:b=c->a+max 0 b<=b+1->a<=1:=by grind
theorem zk:a<=100000->a<=16777216:=by grind
theorem Ce:a<=100000->b=a->b<2->a<=16777216+1:=by grind
theorem Cd:a<=100000->b=a->¬b<2->2<=a:=by kd_p
theorem Cc:a<=100000->b=a->¬b<2->a<=16777216+1:=by grind
theorem Cb:a<=d+c->d<=b+1->a<=b+(c+1):=by grind
theorem Ca:a+2≠a+4:=by simp
theorem B_:a+3≠a+4:=by simp_all
theorem B9:a≠a+4:=by grind
theorem B8:a+1≠a+4:=by simp_all
theorem B7:a+2≠a+3:=by simp
theorem B6:a+2≠a:=by grind
theorem B5:a+2≠a+1:=by simp
theorem B4:a+3≠a:=by simp
theorem B3:a+3≠a+1:=by simp
theorem B2:a≠a+1:=by simp
theorem B1:b=a+5->a<=b:=by intros;simp_all
theorem BZ:a<=a+1:=by simp
theorem zj:b-a=0->a<=b->a=b:=by grind
theorem BY:a-b=0->0=a-b:=by kd_p
theorem zi:b-a=c+1->a<=b->a<b:=by grind
theorem zh:c<=b->a<=d->d<c->a<=b:=by grind
theorem zg:a-b=c+1->b<a->a-(b+1)=c:=by grind
theorem ze:a<b->a+1<=b:=by kd_p
theorem BW:a-b=c+1->b<a->a-(b+1)+1=a-b:=by omega
theorem BV:a+(b+1)=a+1+b:=by grind
theorem BU:a-b=c+1->b<a->a-b=a-(b+1)+1:=by omega
theorem BC (h:k-l<=n-x):k-(l+(k-l)/2+1)<=n-(x+1):=by rw[Nat.add_assoc,<-Nat.sub_sub,<-Nat.sub_sub n x 1];exact QX (Nat.sub_le_sub_left (Nat.le_add_left 1 _) _) (Nat.sub_le_sub_right h 1)
theorem BB (h:k-l<=n-x) (e:l<k):l+(k-l)/2-l<=n-(x+1):=by rw[XA,<-Nat.sub_sub n x 1];exact QX (Nat.le_sub_one_of_lt (Nat.div_lt_self (Nat.sub_pos_of_lt e) (by decide))) (Nat.sub_le_sub_right h 1)
theorem BA (h:r-l<=k-x) (c:¬l>=r):r-((l+r)/2+1)<=k-(x+1):=by rw[<-Nat.sub_sub,<-Nat.sub_sub k x 1];exact Nat.sub_le_sub_right (QX (Nat.sub_le_sub_left ((Nat.le_div_iff_mul_le (by decide)).mpr (by rw[Nat.mul_two];exact Nat.add_le_add_left (Xy (Nat.lt_of_not_ge c)) _)) _) h) 1
theorem Bz (h:r-l<=k-x) (c:¬l>=r):(l+r)/2-l<=k-(x+1):=by rw[<-Nat.sub_sub k x 1];refine QX ?_ (Nat.sub_le_sub_right h 1);rw[Nat.sub_sub,Nat.add_comm l 1,<-Nat.sub_sub];exact Nat.sub_le_sub_right (Nat.le_sub_one_of_lt ((Nat.div_lt_iff_lt_mul (by decide)).mpr (by rw[Nat.mul_two];exact Nat.add_lt_add_right (Nat.lt_of_not_ge c) _))) _
theorem zd (h:d<=x) (q:lo+x-d<=lo+i/\lo+i<lo+x):lo+x-d+(lo+x)-1-(lo+i)=lo+(x-d+x-1-i)/\x-d<=x-d+x-1-i/\x-d+x-1-i<x/\x-d<=i/\i<x:=by obtain⟨y,rfl⟩:∃y,x=y+d:={x-d,(Nat.sub_add_cancel h).symm};have e:lo+(y+d)-d=lo+y:=(by rw[<-Nat.add_assoc,Nat.add_sub_cancel]);rw[e]at q;rw[e,Nat.add_sub_cancel];obtain⟨p,rfl⟩:∃p,i=y+p:={i-y,(Nat.add_sub_of_le (Nat.le_of_add_le_add_left q.1)).symm};have l:=Nat.lt_of_add_lt_add_left (Nat.lt_of_add_lt_add_left q.2);obtain⟨z,rfl⟩:∃z,d=p+1+z:={d-(p+1),(Nat.add_sub_of_le l).symm};have t:∀u:Nat,u+y+(u+(y+(p+1+z)))-1-(u+(y+p))=u+(y+z):=(λu=>by rw[show u+y+(u+(y+(p+1+z)))=u+(y+p)+(u+(y+z))+1 by ac_rfl,Nat.add_sub_cancel,XA]);have t0:=t 0;simp only[Nat.zero_add]at t0;rw[t,t0];exact{rfl,Nat.le_add_right _ _,⋯,Nat.le_add_right _ _,Nat.add_lt_add_left l _}
theorem vZ (q:i<n):lo+(lo+n)-1-(lo+i)=lo+(n-1-i):=by obtain⟨p,rfl⟩:∃p,n=i+1+p:={n-(i+1),(Nat.add_sub_of_le q).symm};rw[show lo+(lo+(i+1+p))=lo+i+(lo+p)+1 by ac_rfl,Nat.add_sub_cancel,XA,Nat.sub_sub,Nat.add_comm 1 i,XA]
theorem By (h:k<=x):f+k+(x-k)-1=f+(x-1)\/x=0:=by obtain⟨y,rfl⟩:∃y,x=k+y:={x-k,(Nat.add_sub_of_le h).symm};rw[XA,Nat.add_assoc];cases (k+y);exact .inr rfl;exact .inl rfl
theorem Bx (h:k<=x) (q:¬x-k=0) (z:m=x-k):k+(m-1)=x-1:=by subst z;rw[<-Nat.add_sub_assoc (Nat.pos_of_ne_zero q),Nat.add_sub_of_le h]
theorem Bw (h:2<=n) (q:¬n-1=1):2<=n-1:=Nat.le_sub_one_of_lt (Nat.lt_of_le_of_ne h λz=>q (by rw[<-z]))
theorem Bv (h:j=n-2-1\/j=n-2) (q:¬n<=1) (e:n=m):j+1<m:=by subst e;obtain⟨z,rfl⟩:∃z,n=z+2:={n-2,(Nat.sub_add_cancel (Nat.lt_of_not_le q)).symm};rw[Nat.add_sub_cancel]at h;rcases h with rfl|rfl;exact Nat.lt_succ_of_le (Nat.add_le_add_right (Nat.sub_le _ _) 1);exact Nat.lt_succ_self _
end
namespace L2
open PySem PySem.Spec PyProof.Rows
abbrev Key:=Sum Int Str
def ja:Key->Value->Bool
 | .inl k,v=>Value.isInt k v
 | .inr x,v=>Value.isStrOf x v
def Fd (w:World):Key->Int
 | .inl k=>hashInt k
 | .inr x=>hashStr w x
theorem bI:∀{k:Key} {v:Value},ja k v=true->(∃i t,k=Sum.inl i/\v=Value.int i t)\/(∃x t,k=Sum.inr x/\v=Value.str x t)
 | .inl i,v,h=>by
  obtain⟨t,e⟩:=Value.isInt_shape (k:=i) (v:=v) h;exact .inl ⟨i,t,rfl,e⟩
 | .inr x,v,h=>by
  obtain⟨t,e⟩:=Value.isStrOf_shape (x:=x) (v:=v) h;exact .inr ⟨x,t,rfl,e⟩
theorem uN (i:Int) (t:Tok):ja (.inl i) (.int i t)=true:=by simp[ja,Value.isInt]
theorem uM (x:Str) (t:Tok):ja (.inr x) (.str x t)=true:=by simp[ja,Value.isStrOf]
theorem AQ (a b:Int):decide ((Sum.inl a:Key)=Sum.inl b)=(a==b):=by
 by_cases e:a=b
 ·subst e;simp
 have h:¬(Sum.inl a:Key)=Sum.inl b:=λq=>e (Sum.inl.inj q);rw[QY h];exact(beq_eq_false_iff_ne.mpr e).symm
theorem AK (a b:Str):decide ((Sum.inr a:Key)=Sum.inr b)=decide (a=b):=by
 by_cases e:a=b
 ·subst e;simp
 have h:¬(Sum.inr a:Key)=Sum.inr b:=λq=>e (Sum.inr.inj q);rw[QY h,QY e]
theorem AO (a:Int) (b:Str):decide ((Sum.inl a:Key)=Sum.inr b)=false:=QY (λq=>nomatch q)
theorem AM (a:Str) (b:Int):decide ((Sum.inr a:Key)=Sum.inl b)=false:=QY (λq=>nomatch q)
noncomputable def bo (prog:Program) (w:World):PySem.KeyKind prog w Key where
 is:=ja
 hash:=Fd w
 inj:=λv a b ha hb=>by
  rcases bI ha with⟨i,t,rfl,rfl⟩|⟨x,t,rfl,rfl⟩
  ·rcases bI hb with⟨j,u,rfl,e⟩|⟨y,u,rfl,e⟩
   ·injection e with e1 _;rw[e1]
   exact nomatch e
  rcases bI hb with⟨j,u,rfl,e⟩|⟨y,u,rfl,e⟩
  ·exact nomatch e
  injection e with e1 _;rw[e1]
 byValue:=λk v h=>by
  rcases bI h with⟨i,t,rfl,rfl⟩|⟨x,t,rfl,rfl⟩ <;> rfl
 pyHash:=λhv h=>by
  rcases bI hv with⟨i,t,rfl,rfl⟩|⟨x,t,rfl,rfl⟩
  ·exact wpAny_pyHash_int h
  exact wpAny_pyHash_str h
 eqBool:=λhu hv h=>by
  rcases bI hu with⟨i,t,rfl,rfl⟩|⟨x,t,rfl,rfl⟩
  ·rcases bI hv with⟨j,u,rfl,rfl⟩|⟨y,u,rfl,rfl⟩
   ·rw[AQ]at h;exact wpAny_eqBool_int h
   rw[AO]at h;exact SeqAt.EqAt.int_str i t y u _ _ _ _ h
  rcases bI hv with⟨j,u,rfl,rfl⟩|⟨y,u,rfl,rfl⟩
  ·rw[AM]at h;exact SeqAt.EqAt.str_int x t j u _ _ _ _ h
  rw[AK]at h;exact wpAny_eqBool_str h
 «strs»:=λk x t v h=>by
  rcases bI h with⟨i,u,rfl,e⟩|⟨y,u,rfl,e⟩
  ·exact nomatch e
  injection e with e1 _;subst e1;cases v <;> rfl
theorem qm (prog:Program) (w:World) (i:Int) (t:Tok):(bo prog w).is (.inl i) (.int i t)=true:=uN i t
theorem fW (prog:Program) (w:World) (x:Str) (t:Tok):(bo prog w).is (.inr x) (.str x t)=true:=uM x t
inductive V where
 | non|bl (b:Bool)|int (i:Int)|str (x:Str)|byt (b:Array UInt8)|flt (b:UInt64)|ref (a:Addr)|ty (n:String)
 deriving DecidableEq
noncomputable def aZ:V->Value->Prop
 | .non,u=>u=Value.none
 | .bl b,u=>u=Value.bool b
 | .int i,u=>∃t,u=Value.int i t
 | .str x,u=>∃t,u=Value.str x t
 | .byt b,u=>∃t,u=Value.bytes b t
 | .flt b,u=>∃t,u=Value.float b t
 | .ref a,u=>u=Value.ref a
 | .ty n,u=>u=Value.type n
abbrev ba:List V->List Value->Prop:=Paired aZ
theorem ba.length {xs:List V} {us:List Value} (r:ba xs us):xs.length=us.length:=Paired.length r
theorem ba.get:∀{xs:List V} {us:List Value} {i:Nat} {x:V},ba xs us->xs[i]?=some x->∃u,us[i]?=some u/\aZ x u
 | _,_,_,_,.nil,e=>by simp at e
 | _,_,0,_,.cons r _,e=>by simp at e;subst e;exact⟨_,rfl,r⟩
 | _,_,i+1,x,.cons _ t,e=>by
  obtain⟨u,h1,h2⟩:=ba.get (i:=i) (x:=x) t (by simpa using e);exact{u,by simpa using h1,h2}
variable {u cd dV doc pm cdv ct oc:Value}
theorem ba.set {x:V} (r:aZ x u):∀{xs:List V} {us:List Value} (i:Nat),ba xs us->ba (xs.set i x) (us.set i u)
 | _,_,_,.nil=>.nil
 | _,_,0,.cons _ t=>.cons r t
 | _,_,i+1,.cons q t=>.cons q (ba.set r i t)
theorem ba.append:∀{xs ys:List V} {us ws:List Value},ba xs us->ba ys ws->ba (xs++ys) (us++ws)
 | _,_,_,_,.nil,s=>s
 | _,_,_,_,.cons r t,s=>.cons r (ba.append t s)
theorem ba.take:∀{xs:List V} {us:List Value} (n:Nat),ba xs us->ba (xs.take n) (us.take n)
 | _,_,0,_=>.nil
 | _,_,_+1,.nil=>.nil
 | _,_,n+1,.cons r t=>.cons r (ba.take n t)
theorem ba.drop:∀{xs:List V} {us:List Value} (n:Nat),ba xs us->ba (xs.drop n) (us.drop n)
 | _,_,0,r=>r
 | _,_,_+1,.nil=>.nil
 | _,_,n+1,.cons _ t=>ba.drop n t
def lG:Option V->Option Value->Prop
 | some v,some u=>aZ v u
 | none,none=>True
 | _,_=>False
def KV {κ:Type}:List (κ × V)->List (κ × Value)->Prop:=Paired λ(p:κ × V) (q:κ × Value)=>p.1=q.1/\aZ p.2 q.2
def kV:Key->V
 | .inl i=>.int i
 | .inr x=>.str x
inductive HO where
 | lst (xs:List V)
 | tup (xs:List V)
 | dK (kvs:List (Key × V))|dT (kvs:List (List Key × V))
 | set (S:Int->Bool) (n:Nat)
 | ins (C dx:Addr) (fs:List (Str × V))
 | own (x:Addr)
 | xd (fs:List (Str × V))
 | met (f x:Addr)
 | rng (lo hi:Int)
 | frz (o:Obj) (u:HO)
 | tbl (ps:Array Value)
 | ext (φ:Heap->Prop)
abbrev Hp:=Addr->Option HO
def upd (H:Hp) (a:Addr) (o:HO):Hp:=λb=>if b=a then some o else H b
variable {o:HO} {a b it dx C f:Addr} {H H':Hp}
theorem af:upd H a o a=some o:=by unfold upd;rw[QL rfl]
theorem am (h:b≠a):upd H a o b=H b:=by unfold upd;rw[QI h]
theorem xu {u:HO}:upd (upd H a o) a u=upd H a u:=by
 funext b;unfold upd;split <;> rfl
theorem DR {u:HO} (h:H a=some o) (h':H b=some u) (d:o≠u):a≠b:=by
 intro e;subst e;rw[h]at h';exact d (Q0 h')
theorem aG (h:H a=some o) (h':H b=none):a≠b:=by
 intro e;subst e;rw[h]at h';cases h'
section
variable (P:Program) (w:World)
noncomputable def bD (H:Hp) (h:Heap) (a:Addr):HO->Prop
 | .lst xs=>xs.length<=sizeLine/\∃(its:List Value) (n:Nat),ba xs its/\h.get? a=some { cls:=.type "list", data:=.seq its.toArray n }
 | .tup xs=>xs.length<=sizeLine/\∃its:List Value,ba xs its/\IsTup h a its.toArray
 | .dK kvs=>kvs.length<=sizeLine/\(a==sysModules)=false/\∃vs,KV kvs vs/\h.DictOf (bo P w) a vs
 | .dT kvs=>kvs.length<=sizeLine/\(a==sysModules)=false/\∃xs:List (List Key × Addr × Value),
   Paired (λ(p:List Key × V) (q:List Key × Addr × Value)=>p.1=q.1/\H q.2.1=some (.tup (p.1.map kV))/\aZ p.2 q.2.2) kvs xs /\
   ∃o es ep,h.get? a=some o/\o.ExactDict/\o.data=.dict es ep/\es.toList=xs.map (entryOfKey (tupleKind (bo P w)))/\(xs.map (·.1)).Nodup
 | .set S n=>h.SetOf (intKind P w) a S n
 | .ins C dx fs=>H dx=some (.own a)/\fs.length<=1000/\dx≠a/\h.get? a=some (PySem.W.instObj C dx) /\
   ∃mA,h.Ns1 dx mA/\(∀f,lG (fs.lookup f) (mA f))/\PySem.Within mA (fs.map (·.1))
 | .own _=>∃o,h.get? a=some o
 | .xd fs=>∃mA,h.Ns1 a mA/\∀f,lG (fs.lookup f) (mA f)
 | .rng lo hi=>∃t u v,h.get? a=some { cls:=.type "range", data:=.fields #[.int lo t,.int hi u,.int 1 v] }
 | .frz o u=>h.get? a=some o/\bD H h a u
 | .tbl ps=>h.get? a=some { cls:=.none,data:=.fields ps }
 | .met f x=>h.get? a=some (PySem.W.methodObj (.ref f) (.ref x))
 | .ext φ=>φ h/\(∃o,h.get? a=some o)/\∀h1 h2:Heap,φ h1->(∀o,h1.get? a=some o->h2.get? a=some o)->φ h2
def HOk (H:Hp) (h:Heap):Prop:=∀a o,H a=some o->bD P w H h a o
end
section
variable {P:Program} {w:World} {H H':Hp} {h h':Heap} {a:Addr} {o:HO}
theorem bD.lt (x:bD P w H h a o):a<h.objs.size:=by
 cases o with
 | lst xs=>obtain⟨_,_,_,_,e⟩:=x;exact Ql e
 | tup xs=>obtain⟨_,_,_,p⟩:=x;exact p.lt
 | dK kvs=>obtain⟨_,_,_,_,o,_,_,e,_⟩:=x;exact Ql e
 | dT kvs=>obtain⟨_,_,_,_,o,_,_,e,_⟩:=x;exact Ql e
 | set S n=>obtain⟨o,_,_,_,e,_⟩:=x;exact Ql e
 | ins C dx fs=>obtain⟨_,_,_,e,_⟩:=x;exact Ql e
 | own y=>obtain⟨_,e⟩:=x;exact Ql e
 | xd fs=>obtain⟨_,⟨_,_,_,e,_⟩,_⟩:=x;exact Ql e
 | rng lo hi=>obtain⟨_,_,_,e⟩:=x;exact Ql e
 | frz ob u=>obtain⟨e,_⟩:=x;exact Ql e
 | tbl ps=>exact Ql (show h.get? a=some _ from x)
 | met f y=>exact Ql (show h.get? a=some _ from x)
 | ext φ=>obtain⟨_,⟨_,e⟩,_⟩:=x;exact Ql e
theorem Paired.mapP {α β:Type} {F G:α->β->Prop}:∀{l₁:List α} {l₂:List β},Paired F l₁ l₂->(∀a b,F a b->G a b)->Paired G l₁ l₂
 | _,_,.nil,_=>.nil
 | _,_,.cons r t,f=>.cons (f _ _ r) (Paired.mapP t f)
theorem bD.stay (x:bD P w H h a o) (k:∀b u,(b=a\/H b=some (.own a))->h.get? b=some u->h'.get? b=some u)
  (ho:∀b,H b=some (.own a)->H' b=some (.own a)) (ht:∀b xs,H b=some (.tup xs)->H' b=some (.tup xs)):bD P w H' h' a o:=by
 induction o with
 | lst xs=>obtain⟨z,its,n,r,e⟩:=x;exact{z,its,n,r,k _ _ (.inl rfl) e}
 | tup xs=>obtain⟨z,its,r,ob,e,c⟩:=x;exact{z,its,r,ob,k _ _ (.inl rfl) e,c}
 | dK kvs=>obtain⟨z,y,vs,r,ob,es,ep,e,c⟩:=x;exact{z,y,vs,r,ob,es,ep,k _ _ (.inl rfl) e,c}
 | dT kvs =>
  obtain⟨z,y,xs,r,ob,es,ep,e,c⟩:=x;exact{z,y,xs,Paired.mapP r λp q z=>{z.1,ht _ _ z.2.1,z.2.2},ob,es,ep,k _ _ (.inl rfl) e,c}
 | set S n=>obtain⟨ob,es,ep,t,e,c⟩:=x;exact{ob,es,ep,t,k _ _ (.inl rfl) e,c}
 | ins C dx fs =>
  obtain⟨d,z,ne,e,mA,⟨od,es,ep,e2,c⟩,r⟩:=x;exact{ho _ d,z,ne,k _ _ (.inl rfl) e,mA,{od,es,ep,k _ _ (.inr d) e2,c},r}
 | own y=>obtain⟨ob,e⟩:=x;exact{ob,k _ _ (.inl rfl) e}
 | xd fs=>obtain⟨mA,⟨od,es,ep,e,c⟩,r⟩:=x;exact{mA,{od,es,ep,k _ _ (.inl rfl) e,c},r}
 | rng lo hi=>obtain⟨t,u,v,e⟩:=x;exact{t,u,v,k _ _ (.inl rfl) e}
 | frz ob u ih=>obtain⟨e,q⟩:=x;exact{k _ _ (.inl rfl) e,ih q}
 | tbl ps =>
  have e:h.get? a=some { cls:=.none,data:=.fields ps }:=x;show h'.get? a=some { cls:=.none,data:=.fields ps };exact k a _ (.inl rfl) e
 | met f y =>
  have e:h.get? a=some (PySem.W.methodObj (.ref f) (.ref y)):=x;show h'.get? a=some (PySem.W.methodObj (.ref f) (.ref y));exact k a _ (.inl rfl) e
 | ext φ=>obtain⟨p,⟨o,e⟩,st⟩:=x;exact{st _ _ p λo q=>k _ _ (.inl rfl) q,{o,k _ _ (.inl rfl) e},st}
theorem HOk.lt (x:HOk P w H h) (e:H a=some o):a<h.objs.size:=(x a o e).lt
theorem HOk.fresh (x:HOk P w H h) (e:h.objs.size<=a):H a=none:=by
 cases q:H a with
 | none=>rfl
 | some u=>exact absurd (QK (x.lt q) e) (Nat.lt_irrefl _)
theorem HOk.kept (x:HOk P w H h) (k:∀b u,h.get? b=some u->h'.get? b=some u):HOk P w H h':=λa o e =>
 (x a o e).stay (λb u _ q=>k b u q) (λ_ q=>q) λ_ _ q=>q
theorem HOk.laid (x:HOk P w H h) (k:∀b u,h.get? b=some u->h'.get? b=some u) (hp:h.objs.size<=a) (new:bD P w (upd H a o) h' a o):HOk P w (upd H a o) h':=λb u e=>by
 have hn:=x.fresh hp;by_cases hb:b=a
 ·subst hb;rw[af]at e;cases e;exact new
 rw[am hb]at e;exact(x b u e).stay (λc v _ q=>k c v q) (λc q=>by rw[am (aG q hn)];exact q) λc xs q=>by rw[am (aG q hn)];exact q
end
def Rd (H:Hp) (a:Addr) (u:HO):Prop:=H a=some u\/∃o,H a=some (.frz o u)
variable {h base:Heap} {w:World} {P:Program}
theorem Rd.ok {u:HO} (r:Rd H a u) (x:HOk P w H h):bD P w H h a u:=by
 rcases r with r|⟨o,r⟩
 ·exact x a u r
 obtain⟨_,q⟩:=x a _ r;exact q
def Mut:Option HO->Prop
 | some (.lst _)=>True
 | some (.dK _)=>True
 | some (.dT _)=>True
 | some (.set _ _)=>True
 | some (.ins _ _ _)=>True
 | some (.ext _)=>True
 | _=>False
section
variable {P:Program} {w:World} {H:Hp} {h h':Heap} {x e:Addr} {o':HO}
theorem HOk.write (ok:HOk P w H h) (mu:Mut (H x)) (he:e=x\/H e=some (.own x)) (k:∀b u,b≠e->h.get? b=some u->h'.get? b=some u) (heo:∃u,h'.get? e=some u)
  (new:bD P w (upd H x o') h' x o'):HOk P w (upd H x o') h':=λb u q=>by
 have nown:∀c y,H c=some (.own y)->c≠x:=λc y r z=>by subst z;rw[r]at mu;exact mu
 have ntup:∀c xs,H c=some (.tup xs)->c≠x:=λc xs r z=>by subst z;rw[r]at mu;exact mu
 by_cases hb:b=x
 ·subst hb;rw[af]at q;cases q;exact new
 rw[am hb]at q;by_cases hbe:b=e
 ·have q':H b=some (.own x):=by
   rcases he with z|z
   ·exact absurd (hbe.trans z) hb
   rw[hbe];exact z
  rw[q]at q';cases q';obtain⟨v,hv⟩:=heo;exact{v,by rw[hbe];exact hv}
 refine(ok b u q).stay (λc v hc r=>k c v ?_ r) (λc r=>by rw[am (nown c b r)];exact r) λc xs r=>by rw[am (ntup c xs r)];exact r
 rcases hc with rfl|hc
 ·exact hbe
 rintro rfl;rcases he with z|z
 ·exact nown c b hc z
 rw[hc]at z;cases z;exact hb rfl
end
structure Un (fs ex:F4) (H H':Hp) (h h':Heap):Prop where
 keep:∀b o,h.get? b=some o->H b=none->b∉fs->b∉ex->h'.get? b=some o
 slot:∀b o,h.get? b=some o->H b=none->b∈fs->b∉ex->∃sl,h'.get? b=some { o with slots:=sl }
 free:∀b o,h.get? b=some o->H b=none->b∉ex->H' b=none
 there:∀b o,h.get? b=some o->b∉ex->∃o',h'.get? b=some o'
 tups:∀b xs,H b=some (.tup xs)->H' b=some (.tup xs)
 frzs:∀b o u,H b=some (.frz o u)->H' b=some (.frz o u)
 tbls:∀b ps,H b=some (.tbl ps)->∃more,H' b=some (.tbl (ps++more))
section
variable {fs fs' ex ex':F4} {H H1 H2:Hp} {h h1 h2 h':Heap} {a x e:Addr} {o:HO}
theorem Un.any (u:Un fs ex H H1 h h1) {b:Addr} {ob:Obj} (q:h.get? b=some ob) (n:H b=none) (hx:b∉ex):∃sl,h1.get? b=some { ob with slots:=sl }:=by
 by_cases hb:b∈fs
 ·exact u.slot b ob q n hb hx
 exact{ob.slots,u.keep b ob q n hb hx}
theorem Un.kept (k:∀b u,h.get? b=some u->h'.get? b=some u):Un fs ex H H h h' :=
 {λb ob q _ _ _=>k b ob q,λb ob q _ _ _=>{ob.slots,k b ob q},λ_ _ _ n _=>n,λb ob q _=>{ob,k b ob q},λ_ _ q=>q,λ_ _ _ q=>q,λ_ ps q=>{#[],by rw[q];simp} }
theorem Un.refl:Un fs ex H H h h:=Un.kept λ_ _ q=>q
theorem Un.laid (k:∀b u,h.get? b=some u->h'.get? b=some u) (hp:h.objs.size<=a) (hn:H a=none):Un fs ex H (upd H a o) h h' where
 keep:=λb u q _ _ _=>k b u q
 slot:=λb u q _ _ _=>{u.slots,k b u q}
 free:=λb u q n _=>by rw[am (Qz (QK (Ql q) hp))];exact n
 there:=λb u q _=>{u,k b u q}
 tups:=λb xs q=>by rw[am (aG q hn)];exact q
 frzs:=λb u xs q=>by rw[am (aG q hn)];exact q
 tbls:=λb ps q=>{#[],by rw[am (aG q hn),q];simp}
theorem Un.write (mu:Mut (H x)) (he:e=x\/H e=some (.own x)) (k:∀b u,b≠e->h.get? b=some u->h'.get? b=some u) (heo:∃u,h'.get? e=some u):Un fs ex H (upd H x o) h h':=by
 have hx:∀b,H b=none->b≠x:=λb n z=>by subst z;rw[n]at mu;exact mu
 have hb:∀b,H b=none->b≠e:=λb n z=>by
  subst z;rcases he with r|r
  ·exact hx b n r
  rw[n]at r;cases r
 have hm:∀b u,H b=some u->¬Mut (some u)->b≠x:=λb u q nm z=>by subst z;rw[q]at mu;exact nm mu
 refine{λb u q n _ _=>k b u (hb b n) q,λb u q n _ _=>{u.slots,k b u (hb b n) q},λb u q n _=>by rw[am (hx b n)];exact n,λb u q _=>?_,
  λb xs q=>by rw[am (hm b _ q λz=>z)];exact q,λb u xs q=>by rw[am (hm b _ q λz=>z)];exact q,λb ps q=>{#[],by rw[am (hm b _ q λz=>z),q];simp} }
 by_cases hbe:b=e
 ·subst hbe;exact heo
 exact{u,k b u hbe q}
end
def trk (h:Heap) (H:Hp):F4:=(List.range h.objs.size).filter λa=>(H a).isSome
def lY (h:Heap) (H:Hp):Heap:=PySem.W.hideAll h (trk h H)
theorem uV (h:Heap) (H:Hp):(lY h H).objs.size=h.objs.size:=PySem.W.hideAll_size _ _
theorem wL {o:Obj} (e:h.get? b=some o) (n:H b=none):(lY h H).get? b=some o :=
 PySem.W.hideAll_get _ e λhm=>by
  have q:(H b).isSome=true:=(List.mem_filter.mp hm).2;rw[n]at q;simp at q
theorem yd {o:Obj} (e:(lY h H).get? b=some o):h.get? b=some o/\H b=none:=by
 have e':h.get? b=some o:=PySem.W.of_hideAll (trk h H) e;refine{e',?_}
 cases q:H b with
 | none=>rfl
 | some x =>
 have hm:b∈trk h H:=List.mem_filter.mpr {List.mem_range.mpr (Ql e'),by simp[q]};have z:(lY h H).get? b=none:=PySem.W.hideAll_none (trk h H) hm;rw[z]at e;cases e
structure Mod (K:PySem.W.Frag) (mg:F3) (base:Heap):Prop where
 kin:K.In base
 glob:base.Ns mainGlobals mg
 blt:∃mb,base.Ns builtinsNs mb/\∀x:Str,x ≠ "__name__" -> mb x=bootBuiltins x
 nolimit:base.NoLimit
/-- the context: a def's body (or a comprehension's block) running. base: fixed through the whole law;s₀,H₀: the fk;outer: the frames whose slots others may change (a def's callers);stack: all frames that run;
  ex: iterators that were made ahead of the fk and are walked here (a comprehension's);fn: the names whose cells were made at the fk (a def: all;a comprehension's block: its own);calm: not within an except suite;pn: pins that every state bears;xe: what is wanted of an exception that leaves the code -/
structure Cx where
 prog:Program
 w:World
 K:PySem.W.Frag
 mg:F3
 base:Heap
 A:Around
 N:List Str
 s₀:Shared
 H₀:Hp
 env:Env
 outer:List Env
 stack:List Env
 ex:F4
 fn:Str->Bool
 calm:Bool
 pn:F2
 xe:F1
def frs (l:List Env):F4:=l.filterMap (·.frame)
abbrev Cx.fs (X:Cx):F4:=frs X.outer
def Vis (sc:Scope) (x:Str):Prop:=sc.names.lookup x=some .local\/sc.names.lookup x=some .cell\/sc.names.lookup x=some .free
def Loc (sc:Scope) (x:Str):Prop:=sc.names.lookup x=some .local\/sc.names.lookup x=some .cell
def Fh (env:Env) (h:Heap) (m:F3) (x:Str) (u:Value):Prop :=
 (env.kindOf x=some .local/\m x=some u)\/((env.kindOf x=some .cell\/env.kindOf x=some .free)/\∃c,env.cells.lookup x=some c/\h.IsCell c (some u))
structure Cx.Ok (X:Cx):Prop where
 mod:Mod X.K X.mg X.base
 kind:X.env.scope.kind=.function
 glob:X.env.globals=mainGlobals
 blt:X.env.builtins=builtinsNs
 above:X.s₀.heap.objs.size<=X.env.locals
 inj:∀x y c,X.env.cells.lookup x=some c->X.env.cells.lookup y=some c->x=y
 has:∀x,(X.env.kindOf x=some .cell\/X.env.kindOf x=some .free)->∃c,X.env.cells.lookup x=some c
 cab:∀x c,X.fn x=true->X.env.cells.lookup x=some c->X.s₀.heap.objs.size<=c
 hd:X.calm=true->X.A.handled=none
 frames:X.A.frames=some X.stack
 stk:X.stack=X.outer\/(X.stack=X.env::X.outer/\X.env.frame=some X.env.locals)
 exf:∀b∈X.ex,b≠X.env.locals/\∀x c,X.env.cells.lookup x=some c->c≠b
 bs:∀b o,X.base.get? b=some o->X.s₀.heap.get? b=some o/\X.H₀ b=none
 bsz:X.base.objs.size<=X.s₀.heap.objs.size
 noex:∀b o,X.base.get? b=some o->b∉X.ex
 exfs:∀b∈X.ex,b∉X.fs
 funs:X.s₀.heap.FunFrames X.base X.outer
 frf:∀b∈X.fs,X.H₀ b=none
structure Inv (X:Cx) (pins:F2) (U:List (Option V)) (H:Hp) (s:Shared):Prop where
 ok:X.Ok
 os:s.os=X.s₀.os
 bare:AllBare s.gens
 base:Un X.fs X.ex X.H₀ H X.s₀.heap s.heap
 loc:∃m,s.heap.Ns X.env.locals m/\∀(i:Nat) (x:Str) (v:V),X.N[i]?=some x->U[i]?=some (some v)->Vis X.env.scope x->∃u,aZ v u/\Fh X.env s.heap m x u
 cell:∀x c,X.env.cells.lookup x=some c->∃v,s.heap.IsCell c v
 free:H X.env.locals=none
 freeC:∀x c,X.env.cells.lookup x=some c->H c=none
 pin:∀p∈X.pn++pins,s.heap.get? p.1=some p.2/\H p.1=none/\p.1≠X.env.locals/\p.1∉X.fs/\∀v,p.2.data≠.cell v
 hok:HOk X.prog X.w H s.heap
 len:U.length=X.N.length
section
variable {X:Cx} {pins:F2} {U:List (Option V)} {H H':Hp} {s:Shared} {h':Heap}
theorem Cx.Ok.nofr (ok:X.Ok) {b:Addr} {o:Obj} (e:X.base.get? b=some o):b∉X.fs:=λhb=>by
 have:=(ok.funs.mem hb).1;rw[e]at this;cases this
theorem Inv.bs (I:Inv X pins U H s):∀b o,X.base.get? b=some o->s.heap.get? b=some o/\H b=none:=λb o e =>
 {I.base.keep b o (I.ok.bs b o e).1 (I.ok.bs b o e).2 (I.ok.nofr e) (I.ok.noex b o e),I.base.free b o (I.ok.bs b o e).1 (I.ok.bs b o e).2 (I.ok.noex b o e)}
theorem Inv.bk (I:Inv X pins U H s):∀b o,X.base.get? b=some o->s.heap.get? b=some o:=λb o e=>(I.bs b o e).1
theorem Inv.mod (I:Inv X pins U H s):Mod X.K X.mg X.base:=I.ok.mod
theorem Inv.kIn (I:Inv X pins U H s):X.K.In s.heap:=I.ok.mod.kin.keeps I.bk
theorem Inv.lt (I:Inv X pins U H s):X.env.locals<s.heap.objs.size:=let ⟨_,hn,_⟩:=I.loc;hn.lt
theorem Inv.sz (I:Inv X pins U H s):X.s₀.heap.objs.size<=s.heap.objs.size:=QX I.ok.above (Xy I.lt)
theorem Inv.nofs (I:Inv X pins U H s) {a:Addr} (h:s.heap.objs.size<=a):a∉X.fs:=λhb=>by
 obtain⟨_,o,ho,_⟩:=I.ok.funs.mem hb;exact absurd (QK (Ql ho) (QX I.sz h)) (Nat.lt_irrefl _)
theorem Inv.cne (I:Inv X pins U H s):∀x c,X.env.cells.lookup x=some c->c≠X.env.locals:=λx c e z=>by
 obtain⟨v,o,ho,hd⟩:=I.cell x c e;obtain⟨m,⟨o',es,ep,ho',hd',_⟩,_⟩:=I.loc;rw[z,ho']at ho;cases ho;rw[hd']at hd;cases hd
theorem Inv.funs (I:Inv X pins U H s):s.heap.FunFrames X.base X.outer:=by
 have all:∀(l:List Env),(∀b∈frs l,b∈X.fs)->X.s₀.heap.FunFrames X.base l->s.heap.FunFrames X.base l:=by
  intro l
  induction l with
  | nil=>intro _ _;trivial
  | cons env r ih =>
  intro hs hl;obtain⟨hk,⟨L,o,hf,hn,ho,hd⟩,hr⟩:=hl;have hL:L∈X.fs:=hs L (by unfold frs;rw[List.filterMap_cons,hf];exact Xj);obtain⟨sl,e⟩:=I.base.slot L o ho (I.ok.frf L hL) hL λz=>I.ok.exfs L z hL;exact{hk,⟨L,_,hf,hn,e,hd⟩,ih (λb hb=>hs b (by unfold frs;rw[List.filterMap_cons,hf];exact Qx _ hb)) hr}
 exact all X.outer (λ_ hb=>hb) I.ok.funs
theorem Inv.stack (I:Inv X pins U H s):s.heap.FunFrames X.base X.stack:=by
 rcases I.ok.stk with e|⟨e,hf⟩
 ·rw[e];exact I.funs
 rw[e];obtain⟨m,hn,_⟩:=I.loc;refine .cons (by rw[I.ok.kind];decide) hf hn ?_ I.funs;exact Heap.get?_none_of_le (QX I.ok.bsz I.ok.above)
theorem Inv.stkSub (I:Inv X pins U H s):∀b∈frs X.stack,b∈X.env.locals::X.fs:=λb hb=>by
 rcases I.ok.stk with e|⟨e,hf⟩
 ·rw[e]at hb;exact Qx _ hb
 rw[e]at hb;unfold frs at hb;rw[List.filterMap_cons,hf]at hb;exact hb
theorem Inv.stkFree (I:Inv X pins U H s):∀b∈frs X.stack,H b=none:=λb hb=>by
 rcases QO.mp (I.stkSub b hb) with e|hb
 ·rw[e];exact I.free
 obtain⟨_,o,ho,_⟩:=I.ok.funs.mem hb;exact I.base.free b o ho (I.ok.frf b hb) λz=>I.ok.exfs b z hb
theorem Inv.step {g':Array GenState} {t':Nat} {d':Drawn} {ch:F4} (I:Inv X pins U H s)
  (hch:∀b∈ch,(b∈X.ex\/X.s₀.heap.objs.size<=b)/\b≠X.env.locals/\(∀x c,X.env.cells.lookup x=some c->c≠b)/\∀p∈X.pn++pins,p.1≠b)
  (keep:∀b o,b≠X.env.locals->b∉X.fs->b∉ch->s.heap.get? b=some o->H b=none->h'.get? b=some o)
  (slot:∀b o,b≠X.env.locals->b∈X.fs->b∉ch->s.heap.get? b=some o->H b=none->∃sl,h'.get? b=some { o with slots:=sl }) (free:∀b o,b∉ch->s.heap.get? b=some o->H b=none->H' b=none)
  (there:∀b o,b∉ch->s.heap.get? b=some o->∃o',h'.get? b=some o')
  (tups:∀b xs,H b=some (.tup xs)->H' b=some (.tup xs)) (frzs:∀b o u,H b=some (.frz o u)->H' b=some (.frz o u)) (tbls:∀b ps,H b=some (.tbl ps)->∃more,H' b=some (.tbl (ps++more)))
  (ns:∀m,s.heap.Ns X.env.locals m->h'.Ns X.env.locals m) (hok:HOk X.prog X.w H' h') (hg:AllBare g') :
  Inv X pins U H' { s with heap:=h',gens:=g',drawn:=d',toks:=t' }:=by
 have neL:∀b o,X.s₀.heap.get? b=some o->b≠X.env.locals:=λb o e=>Qz (QK (Ql e) I.ok.above)
 have neC:∀b o,X.s₀.heap.get? b=some o->b∉X.ex->b∉ch:=λb o e hx hb=>by
  rcases(hch b hb).1 with z|z
  ·exact hx z
  exact absurd (QK (Ql e) z) (Nat.lt_irrefl _)
 have cellK:∀x c,X.env.cells.lookup x=some c->∀v,s.heap.IsCell c v->h'.IsCell c v:=λx c e v ⟨o,ho,hd⟩=>by
  have nch:c∉ch:=λz=>(hch c z).2.2.1 x c e rfl;by_cases hc:c∈X.fs
  ·obtain⟨sl,q⟩:=slot c o (I.cne x c e) hc nch ho (I.freeC x c e);exact⟨_,q,hd⟩
  exact{o,keep c o (I.cne x c e) hc nch ho (I.freeC x c e),hd}
 refine{I.ok,I.os,hg,{λb o e n hb hx=>?_,λb o e n hb hx=>?_,λb o e n hx=>?_,λb o e hx=>?_,λb xs e=>tups b xs (I.base.tups b xs e),λb o xs e=>frzs b o xs (I.base.frzs b o xs e),λb ps e=>?_},?_,λx c e=>?_,?_,λx c e=>?_,λp hp=>?_,hok,I.len}
 ·exact keep b o (neL b o e) hb (neC b o e hx) (I.base.keep b o e n hb hx) (I.base.free b o e n hx)
 ·obtain⟨sl,e1⟩:=I.base.slot b o e n hb hx;obtain⟨sl',e2⟩:=slot b _ (neL b o e) hb (neC b o e hx) e1 (I.base.free b o e n hx);exact⟨sl',e2⟩
 ·obtain⟨o',e1⟩:=I.base.there b o e hx;exact free b o' (neC b o e hx) e1 (I.base.free b o e n hx)
 ·obtain⟨o',e1⟩:=I.base.there b o e hx;exact there b o' (neC b o e hx) e1
 ·obtain⟨m1,e1⟩:=I.base.tbls b ps e;obtain⟨m2,e2⟩:=tbls b _ e1;exact{m1++m2,by rw[e2,Array.append_assoc]}
 ·obtain⟨m,hn,hl⟩:=I.loc;refine{m,ns m hn,λi x v e1 e2 e3=>?_};obtain⟨u,r,l⟩:=hl i x v e1 e2 e3;refine{u,r,?_};rcases l with l|⟨k,c,e,z⟩
  ·exact .inl l
  exact .inr {k,c,e,cellK x c e _ z}
 ·obtain⟨v,z⟩:=I.cell x c e;exact{v,cellK x c e v z}
 ·obtain⟨m,⟨o,_,_,ho,_⟩,_⟩:=I.loc;exact free _ o (λz=>(hch _ z).2.1 rfl) ho I.free
 ·obtain⟨v,o,ho,hd⟩:=I.cell x c e;exact free c o (λz=>(hch c z).2.2.1 x c e rfl) ho (I.freeC x c e)
 obtain⟨e,n,ne,nf,d⟩:=I.pin p hp;have nch:p.1∉ch:=λz=>(hch p.1 z).2.2.2 p hp rfl;exact{keep p.1 p.2 ne nf nch e n,free p.1 p.2 nch e n,ne,nf,d}
theorem Inv.un {t':Nat} (I:Inv X pins U H s) (u:Un X.fs [] H H' s.heap h') (hok:HOk X.prog X.w H' h'):Inv X pins U H' { s with heap:=h',toks:=t' }:=by
 obtain⟨m,⟨o,es,ep,ho,r⟩,_⟩:=id I.loc;obtain⟨sl,hL⟩:=u.any ho I.free (by simp)
 exact I.step (g':=s.gens) (d':=s.drawn) (ch:=[]) (λ_ z=>nomatch z) (λb o _ hb _ e n=>u.keep b o e n hb (by simp)) (λb o _ hb _ e n=>u.slot b o e n hb (by simp)) (λb o _ e n=>u.free b o e n (by simp)) (λb o _ e=>u.there b o e (by simp)) u.tups u.frzs u.tbls (λm' hm=>by
  obtain⟨o',es',ep',ho',r'⟩:=hm;rw[ho]at ho';cases ho'
  exact⟨_,es',ep',hL,r'⟩) hok I.bare
theorem Inv.call {g':Array GenState} {t':Nat} {d':Drawn} {ch:F4} (I:Inv X pins U H s) (u:Un (frs X.stack) ch H H' s.heap h') (hok:HOk X.prog X.w H' h') (hg:AllBare g')
  (hch:∀b∈ch,(b∈X.ex\/X.s₀.heap.objs.size<=b)/\b≠X.env.locals/\(∀x c,X.env.cells.lookup x=some c->c≠b)/\∀p∈X.pn++pins,p.1≠b) :
  Inv X pins U H' { s with heap:=h',gens:=g',drawn:=d',toks:=t' }:=by
 obtain⟨m,⟨o,es,ep,ho,r⟩,_⟩:=id I.loc;obtain⟨sl,hL⟩:=u.any ho I.free λz=>(hch _ z).2.1 rfl
 exact I.step (ch:=ch) hch (λb o hL hb hc e n=>u.keep b o e n (λz=>(QO.mp (I.stkSub b z)).elim hL hb) hc) (λb o _ _ hc e n=>u.any e n hc) (λb o hc e n=>u.free b o e n hc) (λb o hc e=>u.there b o e hc) u.tups u.frzs u.tbls (λm' hm=>by
  obtain⟨o',es',ep',ho',r'⟩:=hm;rw[ho]at ho';cases ho'
  exact⟨_,es',ep',hL,r'⟩) hok hg
theorem Inv.turned {t':Nat} {it:Addr} (I:Inv X pins U H s) (k:∀b o,b≠it->s.heap.get? b=some o->h'.get? b=some o) (hn:H it=none) (hL:it≠X.env.locals)
  (h1:it∈X.ex\/X.s₀.heap.objs.size<=it) (h2:∀x c,X.env.cells.lookup x=some c->c≠it) (h3:∀p∈X.pn++pins,p.1≠it):Inv X pins U H { s with heap:=h',toks:=t' }:=by
 have nit:∀b u,H b=some u->b≠it:=λb u e z=>by rw[z,hn]at e;cases e
 refine I.step (g':=s.gens) (d':=s.drawn) (ch:=[it]) (λb hb=>?_) (λb o _ _ hc e _=>k b o (λz=>hc (by simp[z])) e) (λb o _ _ hc e _=>{o.slots,k b o (λz=>hc (by simp[z])) e}) (λ_ _ _ _ n=>n)
  (λb o hc e=>{o,k b o (λz=>hc (by simp[z])) e}) (λ_ _ e=>e) (λ_ _ _ e=>e) (λb ps e=>{#[],by rw[e];simp}) (λm hm=>?_) (λb u e=>?_) I.bare
 ·have e:b=it:=by simpa using hb
  subst e;exact⟨h1,hL,h2,h3⟩
 ·obtain⟨o,es,ep,ho,r⟩:=hm;exact{o,es,ep,k _ o (XH hL) ho,r}
 refine(I.hok b u e).stay (λc v hc q=>k c v ?_ q) (λ_ q=>q) λ_ _ q=>q;rcases hc with z|z
 ·rw[z];exact nit b u e
 exact nit c _ z
theorem Inv.tok (I:Inv X pins U H s) (t:Nat):Inv X pins U H { s with toks:=t }:=I.un (h':=s.heap) (t':=t) Un.refl I.hok
theorem Inv.kept {t':Nat} (I:Inv X pins U H s) (k:∀b u,s.heap.get? b=some u->h'.get? b=some u):Inv X pins U H { s with heap:=h',toks:=t' }:=I.un (Un.kept k) (I.hok.kept k)
theorem Inv.laid {a:Addr} {o:HO} {t':Nat} (I:Inv X pins U H s) (k:∀b u,s.heap.get? b=some u->h'.get? b=some u) (hp:s.heap.objs.size<=a) (new:bD X.prog X.w (upd H a o) h' a o) :
  Inv X pins U (upd H a o) { s with heap:=h',toks:=t' }:=I.un (Un.laid k hp (I.hok.fresh hp)) (I.hok.laid k hp new)
theorem Inv.write {x e:Addr} {o:HO} {t':Nat} (I:Inv X pins U H s) (mu:Mut (H x)) (he:e=x\/H e=some (.own x)) (k:∀b u,b≠e->s.heap.get? b=some u->h'.get? b=some u) (heo:∃u,h'.get? e=some u)
  (new:bD X.prog X.w (upd H x o) h' x o):Inv X pins U (upd H x o) { s with heap:=h',toks:=t' }:=I.un (Un.write mu he k heo) (I.hok.write mu he k heo new)
theorem Inv.weak {σ':List (Option V)} (I:Inv X pins U H s) (hl:σ'.length=U.length) (w:∀(i:Nat) v,σ'[i]?=some (some v)->U[i]?=some (some v)):Inv X pins σ' H s :=
 {I.ok,I.os,I.bare,I.base,let ⟨m,hn,hl'⟩:=I.loc;{m,hn,λi x v e1 e2 e3=>hl' i x v e1 (w i v e2) e3},I.cell,I.free,I.freeC,I.pin,I.hok,hl.trans I.len}
theorem Inv.pins_of {pins':F2} (I:Inv X pins U H s) (h:∀p∈pins',s.heap.get? p.1=some p.2/\H p.1=none/\p.1≠X.env.locals/\p.1∉X.fs/\∀v,p.2.data≠.cell v):Inv X pins' U H s :=
 {I.ok,I.os,I.bare,I.base,I.loc,I.cell,I.free,I.freeC,λp hp=>(Qp.mp hp).elim (λz=>I.pin p (XV _ z)) (h p),I.hok,I.len}
theorem qi {N:List Str} (hN:N.Nodup) {i j:Nat} {x:Str} (a:N[i]?=some x) (b:N[j]?=some x):i=j:=by
 obtain⟨h1,e1⟩:=Qe.mp a;obtain⟨h2,e2⟩:=Qe.mp b;exact(List.getElem_inj hN).mp (e1.trans e2.symm)
variable {Q:Unit->Shared->Prop} {E:F1}
theorem mt {M:Model} {A:Around} {i:Nat} {x:Str} {v:V} {u:Value} (I:Inv X pins U H s) (hN:X.N.Nodup) (hi:X.N[i]?=some x) (hx:Loc X.env.scope x) (r:aZ v u)
  (h:∀s',Inv X pins (U.set i (some v)) H s'->(∃a,Heap.SameBut a s.heap s'.heap/\(a=X.env.locals\/X.env.cells.lookup x=some a))->Q () s') (hf:X.fn x=true\/X.env.scope.names.lookup x=some .local:=by z_go):wpAny M A (storeName X.env x u) Q E s:=by
 obtain⟨m,hn,hl⟩:=id I.loc;have hcls:(X.env.scope.kind==.class || (X.env.scope.kind==.module&&X.env.locals != X.env.globals))=false:=by rw[I.ok.kind];rfl
 have hiσ:i<U.length:=by rw[I.len];exact(Qe.mp hi).1
 have cne:=I.cne
 have tracked:∀{a:Addr} {h':Heap},(∃o,s.heap.get? a=some o/\H a=none)->Heap.SameBut a s.heap h'->HOk X.prog X.w H h':=λ{a h'} ha hs b ob e=>by
  obtain⟨_,_,hfree⟩:=ha;refine(I.hok b ob e).stay (λc w' hc q=>(hs.2 c ?_).trans q) (λ_ q=>q) λ_ _ q=>q;rintro rfl;rcases hc with rfl|hc
  ·rw[hfree]at e;cases e
  rw[hfree]at hc;cases hc
 rcases hx with hk|hk
 ·refine wpAny_storeName_local hk hn (λh' hn' hs=>?_) hcls;obtain⟨oL,_,_,hoL,_⟩:=id hn;refine h _ {I.ok,I.os,I.bare,{λb o e n hb hx=>?_,λb o e n hb hx=>?_,I.base.free,λb o e hx=>?_,I.base.tups,I.base.frzs,I.base.tbls},{_,hn',λj y v' e1 e2 e3=>?_},λy c e=>?_,I.free,I.freeC,λp hp=>?_,tracked ⟨oL,hoL,I.free⟩ hs,by simpa using I.len} {_,hs,.inl rfl}
  ·exact(hs.2 b (Qz (QK (Ql e) I.ok.above))).trans (I.base.keep b o e n hb hx)
  ·obtain⟨sl,e1⟩:=I.base.slot b o e n hb hx;exact{sl,(hs.2 b (Qz (QK (Ql e) I.ok.above))).trans e1}
  ·obtain⟨o',e1⟩:=I.base.there b o e hx;exact{o',(hs.2 b (Qz (QK (Ql e) I.ok.above))).trans e1}
  ·by_cases hj:j=i
   ·subst hj;rw[hi]at e1;cases e1;rw[List.getElem?_set_self hiσ]at e2;cases e2;exact{u,r,.inl {hk,by simp} }
   rw[List.getElem?_set_ne (XH hj)]at e2;obtain⟨u',r',q⟩:=hl j y v' e1 e2 e3;refine{u',r',?_};rcases q with⟨k,e⟩|⟨k,c,e,z⟩
   ·refine .inl {k,?_};have:y≠x:=λe=>hj (qi hN e1 (e▸hi));simp[this,e]
   exact .inr {k,c,e,z.sameBut hs (cne y c e)}
  ·obtain⟨w',z⟩:=I.cell y c e;exact{w',z.sameBut hs (cne y c e)}
  obtain⟨e,n,ne,nf,d⟩:=I.pin p hp;exact{(hs.2 p.1 ne).trans e,n,ne,nf,d}
 have hfn:X.fn x=true:=by
  rcases hf with z|z
  ·exact z
  rw[z]at hk;cases hk
 obtain⟨c,hc⟩:=I.ok.has x (.inl hk);obtain⟨w',z⟩:=I.cell x c hc;refine wpAny_storeName_cell I.ok.kind hk hc z (λh' hc' hs=>?_);obtain⟨oc,hoc,hocd⟩:=id z;refine h { s with heap:=h' } {I.ok,I.os,I.bare,{λb o e n hb hx=>?_,λb o e n hb hx=>?_,I.base.free,λb o e hx=>?_,I.base.tups,I.base.frzs,I.base.tbls},{m,hn.sameBut hs (XH (cne x c hc)),λj y v' e1 e2 e3=>?_},λy c' e=>?_,I.free,I.freeC,λp hp=>?_,tracked {oc,hoc,I.freeC x c hc} hs,by simpa using I.len} {c,hs,.inr hc}
 ·exact(hs.2 b (Qz (QK (Ql e) (I.ok.cab x c hfn hc)))).trans (I.base.keep b o e n hb hx)
 ·obtain⟨sl,e1⟩:=I.base.slot b o e n hb hx;exact{sl,(hs.2 b (Qz (QK (Ql e) (I.ok.cab x c hfn hc)))).trans e1}
 ·obtain⟨o',e1⟩:=I.base.there b o e hx;exact{o',(hs.2 b (Qz (QK (Ql e) (I.ok.cab x c hfn hc)))).trans e1}
 ·by_cases hj:j=i
  ·subst hj;rw[hi]at e1;cases e1;rw[List.getElem?_set_self hiσ]at e2;cases e2;exact{u,r,.inr {.inl hk,c,hc,hc'} }
  rw[List.getElem?_set_ne (XH hj)]at e2;obtain⟨u',r',q⟩:=hl j y v' e1 e2 e3;refine{u',r',?_};rcases q with q|⟨k,c',e,z'⟩
  ·exact .inl q
  refine .inr {k,c',e,z'.sameBut hs ?_};rintro rfl;exact hj (qi hN e1 (I.ok.inj _ _ _ e hc▸hi))
 ·by_cases hcc:c'=c
  ·subst hcc;exact⟨_,hc'⟩
  obtain⟨w2,z2⟩:=I.cell y c' e;exact{w2,z2.sameBut hs hcc}
 obtain⟨e,n,ne,nf,d⟩:=I.pin p hp;refine{(hs.2 p.1 ?_).trans e,n,ne,nf,d};intro q;rw[q,hoc]at e;have q':oc=p.2:=Q0 e;exact d w' (by rw[<-q'];exact hocd)
theorem jK {M:Model} {A:Around} {i:Nat} {x:Str} {v:V} {u:Value} (I:Inv X pins U H s) (hN:X.N.Nodup) (hi:X.N[i]?=some x) (hx:Loc X.env.scope x) (r:aZ v u)
  (h:∀s',Inv X pins (U.set i (some v)) H s'->Q () s') (hf:X.fn x=true\/X.env.scope.names.lookup x=some .local:=by z_go):wpAny M A (storeName X.env x u) Q E s :=
 mt I hN hi hx r (λs' I' _=>h s' I') hf
theorem Inv.call' {s':Shared} {ch:F4} (I:Inv X pins U H s) (ho:s'.os=s.os) (u:Un (frs X.stack) ch H H' s.heap s'.heap) (hok:HOk X.prog X.w H' s'.heap) (hg:AllBare s'.gens)
  (hch:∀b∈ch,(b∈X.ex\/X.s₀.heap.objs.size<=b)/\b≠X.env.locals/\(∀x c,X.env.cells.lookup x=some c->c≠b)/\∀p∈X.pn++pins,p.1≠b):Inv X pins U H' s':=by
 obtain⟨h',g',d',t',o'⟩:=s';have e:o'=s.os:=ho;subst e;exact I.call (g':=g') (t':=t') (d':=d') u hok hg hch
end
abbrev XK:=Value->Option Addr->Hp->Prop
abbrev St:=List (Option V)
abbrev VK:=V->Hp->Prop
abbrev TE:=St->Hp->VK->Prop
abbrev TT:=St->Hp->(Bool->Hp->Prop)->Prop
abbrev TA:=St->Hp->(List V->Hp->Prop)->Prop
structure Ends where
 nx:St->Hp->Prop
 rt:VK
 bk:St->Hp->Prop:=λ_ _=>False
 ct:St->Hp->Prop:=λ_ _=>False
abbrev TS:=Ends->St->Hp->Prop
def EP (X:Cx) (pins:F2) (U:St) (Q:VK) (u:Value) (s':Shared):Prop:=∃v H',Inv X pins U H' s'/\aZ v u/\Q v H'
def TP (X:Cx) (pins:F2) (U:St) (Q:Bool->Hp->Prop) (b:Bool) (s':Shared):Prop:=∃H',Inv X pins U H' s'/\Q b H'
def AP (X:Cx) (pins:F2) (U:St) (Q:List V->Hp->Prop) (us:List Value) (s':Shared):Prop:=∃vs H',Inv X pins U H' s'/\ba vs us/\Q vs H'
def SP (X:Cx) (pins:F2) (D:Ends) (f:Flow) (s':Shared):Prop :=
 match f with
 | .next=>∃σ' H',Inv X pins σ' H' s'/\D.nx σ' H'
 | .brk=>∃σ' H',Inv X pins σ' H' s'/\D.bk σ' H'
 | .cont=>∃σ' H',Inv X pins σ' H' s'/\D.ct σ' H'
 | .ret u=>∃v σ' H',Inv X pins σ' H' s'/\aZ v u/\D.rt v H'
def PE (X:Cx) (e:Expr) (t:TE):Prop :=
 ∀(pins:F2) (s:Shared) (U:St) (H:Hp) (Q:VK),Inv X pins U H s->t U H Q->wpAny (model X.prog X.w) X.A (eval e X.env) (EP X pins U Q) X.xe s
def PT (X:Cx) (e:Expr) (t:TT):Prop :=
 ∀(pins:F2) (s:Shared) (U:St) (H:Hp) (Q:Bool->Hp->Prop),Inv X pins U H s->t U H Q->wpAny (model X.prog X.w) X.A (isTrue e X.env (eval e X.env)) (TP X pins U Q) X.xe s
def PW (X:Cx) (e:Expr) (t:TT):Prop :=
 ∀(whole:Sem Value) (pins:F2) (s:Shared) (U:St) (H:Hp) (Q:Bool->Hp->Prop),Inv X pins U H s->t U H Q->wpAny (model X.prog X.w) X.A (isTrue e X.env whole) (TP X pins U Q) X.xe s
variable {e tg:Expr} {X:Cx}
theorem PW.pt {t:TT} (h:PW X e t):PT X e t:=h _
def PA (X:Cx) (es:List Expr) (t:TA):Prop :=
 ∀(pos:Pos) (pins:F2) (s:Shared) (U:St) (H:Hp) (Q:List V->Hp->Prop),Inv X pins U H s->t U H Q->wpAny (model X.prog X.w) X.A (spliced (backTo pos (starEach es X.env))) (AP X pins U Q) X.xe s
def PS (X:Cx) (st:Stmt) (t:TS):Prop :=
 ∀(pins:F2) (s:Shared) (U:St) (H:Hp) (D:Ends),Inv X pins U H s->t D U H->wpAny (model X.prog X.w) X.A (exec st X.env) (SP X pins D) X.xe s
def PSs (X:Cx) (st:List Stmt) (t:TS):Prop :=
 ∀(pins:F2) (s:Shared) (U:St) (H:Hp) (D:Ends),Inv X pins U H s->t D U H->wpAny (model X.prog X.w) X.A (execs st X.env) (SP X pins D) X.xe s
variable {s s1:Shared} {E:F1} {A:Around}
theorem thn {α:Type} {t:Sem α} {Q Q':α->Shared->Prop} {M:Model} (h:wpAny M A t Q E s) (hQ:∀a s,Q a s->Q' a s):wpAny M A t Q' E s:=Xp h hQ λ_ _ x=>x
section
variable {X:Cx}
def bV (i:Nat):TE:=λU H Q=>∃v,U[i]?=some (some v)/\Q v H
def tC (v:V):TE:=λ_ H Q=>Q v H
variable {x:Str}
theorem Ae {i:Nat} {pos:Pos} (hN:X.N[i]?=some x) (hv:Vis X.env.scope x) (hd:(x==("__debug__" : Str))=false:=by decide) (hcd:(x==("__classdict__" : Str))=false:=by decide):PE X (.Name x pos) (bV i):=by
 intro pins s U H Q I h;obtain⟨v,e,h⟩:=h;obtain⟨m,hn,hl⟩:=I.loc;obtain⟨u,r,l⟩:=hl i x v hN e hv;have fin:EP X pins U Q u s:=⟨v,H,I,r,h⟩;rcases l with⟨hk,hm⟩|⟨hk,c,hc,hcell⟩
 ·exact wpAny_Name (wpAny_loadName_local I.ok.kind hk hn hm fin) hd
 rcases hk with hk|hk
 ·exact wpAny_Name (wpAny_loadName_cell I.ok.kind hk hc hcell fin) hd
 exact wpAny_Name (wpAny_loadName_free I.ok.kind hk hc hcell fin hcd) hd
theorem ae {i j pos}:PE X (.Constant (.int i) j pos) (tC (.int i)):=λ_ _ _ H _ I h=>wpAny_Constant_int {.int i,H,I.tok _,⟨_,rfl⟩,h}
theorem eB {b j pos}:PE X (.Constant (.bool b) j pos) (tC (.bl b)):=λ_ _ _ H _ I h=>Constant_bool {.bl b,H,I,rfl,h}
theorem kj {j pos}:PE X (.Constant .none j pos) (tC .non):=λ_ _ _ H _ I h=>Constant_none {.non,H,I,rfl,h}
theorem aU {x j pos}:PE X (.Constant (.str x) j pos) (tC (.str x)):=λ_ _ _ H _ I h=>Calls.Constant_str {.str x,H,I.tok _,⟨_,rfl⟩,h}
def Gl (X:Cx) (x:Str):Prop:=X.env.kindOf x=some .globalImplicit
variable {Q E:F1} {u:Value} {pins:F2}
theorem ot {s:Shared} {U:St} {H:Hp} {pos:Pos} (I:Inv X pins U H s) (hg:Gl X x) (hm:X.mg x=some u) (h:Q u s)
  (hd:(x==("__debug__" : Str))=false:=by decide):wpAny (model X.prog X.w) X.A (eval (.Name x pos) X.env) Q E s :=
 Calls.Name_function_global I.ok.kind hg (Calls.loadGlobal_global (by rw[I.ok.glob];exact I.mod.glob.keeps I.bk) hm h) hd
theorem dR {s:Shared} {U:St} {H:Hp} {pos:Pos} (I:Inv X pins U H s) (hg:Gl X x) (hm:X.mg x=none) (hv:bootBuiltins x=some u) (h:Q u s)
  (hn:x ≠ "__name__" := by decide) (hd:(x==("__debug__" : Str))=false:=by decide):wpAny (model X.prog X.w) X.A (eval (.Name x pos) X.env) Q E s:=by
 obtain⟨mb,h1,h2⟩:=I.mod.blt;exact Calls.Name_function_global I.ok.kind hg (Calls.loadGlobal_builtin (by rw[I.ok.glob];exact I.mod.glob.keeps I.bk) hm (by rw[I.ok.blt];exact h1.keeps I.bk) ((h2 x hn).trans hv) h) hd
theorem sW {v:V} {pos:Pos} (hg:Gl X x) (hm:X.mg x=some u) (r:aZ v u) (hd:(x==("__debug__" : Str))=false:=by decide):PE X (.Name x pos) (tC v) :=
 λ_ _ _ H _ I h=>ot I hg hm ⟨v,H,I,r,h⟩ hd
theorem gt {v:V} {pos:Pos} (hg:Gl X x) (hm:X.mg x=none) (hv:bootBuiltins x=some u) (r:aZ v u) (hn:x ≠ "__name__" := by decide) (hd:(x==("__debug__" : Str))=false:=by decide):PE X (.Name x pos) (tC v) :=
 λ_ _ _ H _ I h=>dR I hg hm hv ⟨v,H,I,r,h⟩ hn hd
variable {a b:Expr} {ta tb:TE} {pos:Pos}
def PC (X:Cx) (op:CmpOp) (a b:Expr) (t:TE):Prop :=
 ∀(pins:F2) (s:Shared) (U:St) (H:Hp) (Q:VK),Inv X pins U H s->t U H Q ->
  wpAny (model X.prog X.w) X.A (eval a X.env) (λv s₁=>wpAny (model X.prog X.w) X.A (eval b X.env) (λu s₂=>wpAny (model X.prog X.w) X.A (compareOp op v u) (EP X pins U Q) X.xe s₂) X.xe s₁) X.xe s
def tB (t:TE):TT:=λU H Q=>t U H λx H1=>∃c,x=.bl c/\Q c H1
variable {t:TE}
theorem Aj {op:CmpOp} (h:PC X op a b t) (h1:behindInMarks op b=false:=by first|exact nobehind _ (by decide) (by decide)|rfl):PE X (.Compare a [op] [b] pos) t:=λpins s U H Q I hw=>wpAny_Compare1 (h pins s U H Q I hw) h1
theorem iL {op:CmpOp} (h:PC X op a b t) (h1:behindInMarks op b=false:=by first|exact nobehind _ (by decide) (by decide)|rfl):PT X (.Compare a [op] [b] pos) (tB t):=by
 intro pins s U H Q I hw;refine wpAny_isTrue_Compare1 (thn (h pins s U H _ I hw) λv s1 h1=>thn h1 λu s2 h2=>thn h2 λc s3 ⟨x,H1,I1,r1,q1⟩=>?_) h1;obtain⟨d,rfl,q⟩:=q1;cases r1;exact wpAny_truthy_bool ⟨H1,I1,q⟩
theorem eA {e:Expr} (h:PE X e t) (he:∀whole,isTrue e X.env whole=(do let v <-whole;standAt e.pos;holding [v] (truthy v)):=by intro _;rfl):PT X e (tB t):=by
 intro pins s U H Q I hw;refine isTrue_plain (thn (h pins s U H _ I hw) λv s1 ⟨x,H1,I1,r1,q1⟩=>?_) (he _);obtain⟨d,rfl,q⟩:=q1;cases r1;exact wpAny_truthy_bool ⟨H1,I1,q⟩
variable {tA tB':TT} {rest:List Expr}
def Bj (t u:TT):TT:=λU H Q=>t U H λc H1=>if c=true then u U H1 Q else Q false H1
def tOr (t u:TT):TT:=λU H Q=>t U H λc H1=>if c=true then Q true H1 else u U H1 Q
def A9 (t:TT):TT:=λU H Q=>t U H λc H1=>Q (!c) H1
theorem jw (ha:PT X a tA):PW X (.BoolOp .And [a] pos) tA:=by
 intro wh pins s U H Q I h;refine isTrue_and (thn (ha pins s U H Q I h) λc s1 e=>?_)
 cases c with
 | true=>exact isTrue_and_nil e
 | false=>exact e
theorem fP (ha:PT X a tA):PW X (.BoolOp .Or [a] pos) tA:=by
 intro wh pins s U H Q I h;refine isTrue_or (thn (ha pins s U H Q I h) λc s1 e=>?_)
 cases c with
 | false=>exact isTrue_or_nil e
 | true=>exact e
theorem nZ (ha:PT X a tA) (hb:PW X (.BoolOp .And (b::rest) pos) tB'):PW X (.BoolOp .And (a::b::rest) pos) (Bj tA tB'):=by
 intro wh pins s U H Q I h;refine isTrue_and (thn (ha pins s U H _ I h) λc s1 ⟨H1,I1,q1⟩=>?_)
 cases c with
 | true=>exact hb wh pins s1 U H1 Q I1 q1
 | false=>exact⟨H1,I1,q1⟩
theorem ij (ha:PT X a tA) (hb:PW X (.BoolOp .Or (b::rest) pos) tB'):PW X (.BoolOp .Or (a::b::rest) pos) (tOr tA tB'):=by
 intro wh pins s U H Q I h;refine isTrue_or (thn (ha pins s U H _ I h) λc s1 ⟨H1,I1,q1⟩=>?_)
 cases c with
 | true=>exact⟨H1,I1,q1⟩
 | false=>exact hb wh pins s1 U H1 Q I1 q1
theorem fv (ha:PT X a tA):PT X (.UnaryOp .Not a pos) (A9 tA):=by
 intro pins s U H Q I h;exact isTrue_not (ha pins s U H (λc H1=>Q (!c) H1) I h)
def yN (ta tb:TE):TE:=λU H Q=>ta U H λx H1=>∃c,x=.bl c/\if c=true then tb U H1 Q else Q (.bl false) H1
def A8 (ta tb:TE):TE:=λU H Q=>ta U H λx H1=>∃c,x=.bl c/\if c=true then Q (.bl true) H1 else tb U H1 Q
def yI (ta:TE):TE:=λU H Q=>ta U H λx H1=>∃c,x=.bl c/\Q (.bl (!c)) H1
theorem fS {op} (h:PE X a t):PE X (.BoolOp op [a] pos) t:=λpins s U H Q I hw=>BoolOp_one (h pins s U H Q I hw)
theorem fU (ha:PE X a ta) (hb:PE X (.BoolOp .And (b::rest) pos) tb):PE X (.BoolOp .And (a::b::rest) pos) (yN ta tb):=by
 intro pins s U H Q I h;refine BoolOp_and (thn (ha pins s U H _ I h) λv s1 ⟨x,H1,I1,r1,q1⟩=>?_);obtain⟨c,rfl,q1⟩:=q1;cases r1;refine wpAny_truthy_bool ?_
 cases c with
 | true=>exact hb pins s1 U H1 Q I1 q1
 | false=>exact{.bl false,H1,I1,rfl,q1}
theorem y_ (ha:PE X a ta) (hb:PE X (.BoolOp .Or (b::rest) pos) tb):PE X (.BoolOp .Or (a::b::rest) pos) (A8 ta tb):=by
 intro pins s U H Q I h;refine BoolOp_or (thn (ha pins s U H _ I h) λv s1 ⟨x,H1,I1,r1,q1⟩=>?_);obtain⟨c,rfl,q1⟩:=q1;cases r1;refine wpAny_truthy_bool ?_
 cases c with
 | false=>exact hb pins s1 U H1 Q I1 q1
 | true=>exact{.bl true,H1,I1,rfl,q1}
theorem rf (ha:PE X a ta):PE X (.UnaryOp .Not a pos) (yI ta):=by
 intro pins s U H Q I h;refine UnaryOp_ (thn (ha pins s U H _ I h) λv s1 ⟨x,H1,I1,r1,q1⟩=>?_);obtain⟨c,rfl,q1⟩:=q1;cases r1;exact not_of (wpAny_truthy_bool {.bl (!c),H1,I1,rfl,q1})
def tIf (t:TT) (ta tb:TE):TE:=λU H Q=>t U H λc H1=>if c=true then ta U H1 Q else tb U H1 Q
theorem vT {c:Expr} (hc:PT X c tA) (ha:PE X a ta) (hb:PE X b tb):PE X (.IfExp c a b pos) (tIf tA ta tb):=by
 intro pins s U H Q I h;refine wpAny_IfExp (thn (hc pins s U H _ I h) λd s1 ⟨H1,I1,q1⟩=>?_)
 cases d with
 | true=>exact ha pins s1 U H1 Q I1 q1
 | false=>exact hb pins s1 U H1 Q I1 q1
end
def SqL (K:PySem.W.Frag) (H:Hp) (a:Addr) (xs:List V):Prop :=
 Rd H a (.lst xs) \/
  ∃(o:Obj) (its:Array Value) (n:Nat),K.lookup a=some o/\o.cls=.type "list" /\ o.dict=none/\o.data=.seq its n/\its.size<=sizeLine/\ba xs its.toList
def SqT (K:PySem.W.Frag) (H:Hp) (a:Addr) (xs:List V):Prop :=
 Rd H a (.tup xs) \/
  ∃(o:Obj) (its:Array Value) (n:Nat),K.lookup a=some o/\o.cls=.type "tuple" /\ o.data=.seq its n/\its.size<=sizeLine/\ba xs its.toList
noncomputable def Fg:Value->Option V
 | .none=>some .non
 | .bool b=>some (.bl b)
 | .int i _=>some (.int i)
 | .str x _=>some (.str x)
 | .bytes b _=>some (.byt b)
 | .float b _=>some (.flt b)
 | .ref a=>some (.ref a)
 | .type n=>some (.ty n)
 | _=>none
theorem aZ.abs {x:V} (r:aZ x u):Fg u=some x:=by
 cases x with
 | non=>cases r;rfl
 | bl _=>cases r;rfl
 | int _=>obtain⟨t,rfl⟩:=r;rfl
 | str _=>obtain⟨t,rfl⟩:=r;rfl
 | byt _=>obtain⟨t,rfl⟩:=r;rfl
 | flt _=>obtain⟨t,rfl⟩:=r;rfl
 | ref _=>cases r;rfl
 | ty _=>cases r;rfl
theorem aZ.inj {x y:V} (r:aZ x u) (q:aZ y u):x=y:=Q0 (r.abs.symm.trans q.abs)
theorem ba.inj:∀{xs ys:List V} {us:List Value},ba xs us->ba ys us->xs=ys
 | _,_,_,.nil,.nil=>rfl
 | _,_,_,.cons r t,.cons r' t'=>by rw[r.inj r',ba.inj t t']
section
variable {X:Cx} {pins:F2} {U:St} {H:Hp} {s:Shared} {a:Addr} {xs ys:List V}
theorem SqL.of {K:PySem.W.Frag} (h:H a=some (.lst xs)):SqL K H a xs:=.inl (.inl h)
theorem SqT.of {K:PySem.W.Frag} (h:H a=some (.tup xs)):SqT K H a xs:=.inl (.inl h)
theorem Inv.list (I:Inv X pins U H s) (h:SqL X.K H a xs):∃its:List Value,ba xs its/\PlainL s.heap a its.toArray/\xs.length<=sizeLine:=by
 rcases h with h|⟨o,its,n,hk,hc,hd,hs,hz,r⟩
 ·obtain⟨z,its,n,r,e⟩:=h.ok I.hok;exact{its,r,⟨_,n,e,rfl,rfl,rfl⟩,z}
 refine{its.toList,r,{o,n,I.kIn a o hk,hc,hd,by simpa using hs},?_};have e:=r.length;simp only[Qs]at e;omega
theorem Inv.tuple (I:Inv X pins U H s) (h:SqT X.K H a xs):∃its:List Value,ba xs its/\IsTup s.heap a its.toArray/\xs.length<=sizeLine:=by
 rcases h with h|⟨o,its,n,hk,hc,hs,hz,r⟩
 ·obtain⟨z,its,r,p⟩:=h.ok I.hok;exact⟨its,r,p,z⟩
 refine{its.toList,r,{o,I.kIn a o hk,hc,n,by simpa using hs},?_};have e:=r.length;simp only[Qs]at e;omega
theorem Inv.list_inj (I:Inv X pins U H s) (h:SqL X.K H a xs) (h':SqL X.K H a ys):xs=ys:=by
 obtain⟨its,r,⟨o,n,e,_,_,d⟩,_⟩:=I.list h;obtain⟨its',r',⟨o',n',e',_,_,d'⟩,_⟩:=I.list h';rw[e]at e';cases e';rw[d]at d';injection d' with d1 _;have:its=its':=by simpa using congrArg Array.toList d1
 subst this;exact r.inj r'
end
abbrev Cx.wish (X:Cx) (E:F1):Cx:={ X with xe:=E }
abbrev Cx.nox (X:Cx):Cx:=X.wish λ_ _=>False
theorem Cx.Ok.wish (ok:X.Ok) (E:F1):(X.wish E).Ok :=
 ⟨ok.mod,ok.kind,ok.glob,ok.blt,ok.above,ok.inj,ok.has,ok.cab,ok.hd,ok.frames,ok.stk,ok.exf,ok.bs,ok.bsz,ok.noex,ok.exfs,ok.funs,ok.frf⟩
theorem Cx.Ok.unwish (ok:(X.wish E).Ok):X.Ok :=
 ⟨ok.mod,ok.kind,ok.glob,ok.blt,ok.above,ok.inj,ok.has,ok.cab,ok.hd,ok.frames,ok.stk,ok.exf,ok.bs,ok.bsz,ok.noex,ok.exfs,ok.funs,ok.frf⟩
section
variable {X:Cx} {pins:F2} {U:St} {H:Hp} {s:Shared} {E:F1}
theorem Inv.wish (I:Inv X pins U H s) (E:F1):Inv (X.wish E) pins U H s:={I.ok.wish E,I.os,I.bare,I.base,I.loc,I.cell,I.free,I.freeC,I.pin,I.hok,I.len}
theorem Inv.unwish (I:Inv (X.wish E) pins U H s):Inv X pins U H s:=⟨I.ok.unwish,I.os,I.bare,I.base,I.loc,I.cell,I.free,I.freeC,I.pin,I.hok,I.len⟩
theorem SP.unwish {D:Ends} {f:Flow} {s':Shared} (h:SP (X.wish E) pins D f s'):SP X pins D f s':=by
 cases f with
 | next=>obtain⟨σ',H',I,q⟩:=h;exact⟨σ',H',I.unwish,q⟩
 | brk=>obtain⟨σ',H',I,q⟩:=h;exact⟨σ',H',I.unwish,q⟩
 | cont=>obtain⟨σ',H',I,q⟩:=h;exact⟨σ',H',I.unwish,q⟩
 | ret u=>obtain⟨v,σ',H',I,r,q⟩:=h;exact⟨v,σ',H',I.unwish,r,q⟩
theorem PSs.nox {st:List Stmt} {t:TS} (h:PSs X.nox st t):PSs X st t:=λpins s U H D I hw =>
 Xp (h pins s U H D (I.wish _) hw) (λ_ _ q=>q.unwish) λ_ _ z=>False.elim z
end
section
variable {X:Cx} {st:Stmt} {rest:List Stmt} {t u:TS} {e:Expr} {te:TE} {pos:Pos}
def yJ:TS:=λD U H=>D.nx U H
def xy (t u:TS):TS:=λD U H=>t { D with nx:=u D } U H
theorem pss_nil:PSs X [] yJ:=λ_ _ U H _ I h=>wpAny_execs_nil ⟨U,H,I,h⟩
theorem pss_cons (h1:PS X st t) (h2:PSs X rest u):PSs X (st::rest) (xy t u):=by
 intro pins s U H D I h;refine wpAny_execs_cons (thn (h1 pins s U H { D with nx:=u D } I h) λf s1 q=>?_)
 cases f with
 | next =>
  obtain⟨σ',H',I',q⟩:=q;exact h2 pins s1 σ' H' D I' q
 | ret v=>exact q
 | brk=>exact q
 | cont=>exact q
theorem a9 (h1:PS X st t):PSs X [st] t:=by
 intro pins s U H D I h;refine wpAny_execs_cons (thn (h1 pins s U H D I h) λf s1 q=>?_)
 cases f with
 | next=>exact wpAny_execs_nil q
 | ret v=>exact q
 | brk=>exact q
 | cont=>exact q
theorem Inv.quiet {pins:F2} {U:St} {H:Hp} {s:Shared} (I:Inv X pins U H s):interactive X.env=false:=by simp[interactive,I.ok.kind]
def yL (te:TE):TS:=λD U H=>te U H λ_ H1=>D.nx U H1
theorem bB (he:PE X e te) (hs:swapsWith e none pos.line X.env=pure false:=by rfl):PS X (.Expr e pos) (yL te):=by
 intro pins s U H D I h;exact wpAny_Expr_any (thn (he pins s U H _ I h) λv s1 ⟨x,H1,I1,r1,q1⟩=>⟨U,H1,I1,q1⟩) I.quiet hs
def A7 (te:TE):TS:=λD U H=>te U H D.rt
theorem aK (he:PE X e te):PS X (.Return (some e) pos) (A7 te):=by
 intro pins s U H D I h;exact wpAny_Return_some (thn (he pins s U H _ I h) λv s1 ⟨x,H1,I1,r1,q1⟩=>⟨x,U,H1,I1,r1,q1⟩)
def Ba (c:TT) (t u:TS):TS:=λD U H=>c U H λb H1=>if b=true then t D U H1 else u D U H1
theorem ps_if {c:Expr} {a b:List Stmt} {tc:TT} (hc:PT X c tc) (ha:PSs X a t) (hb:PSs X b u):PS X (.If c a b pos) (Ba tc t u):=by
 intro pins s U H D I h;refine wpAny_If (thn (hc pins s U H _ I h) λd s1 ⟨H1,I1,q1⟩=>?_)
 cases d with
 | true=>exact ha pins s1 U H1 D I1 q1
 | false=>exact hb pins s1 U H1 D I1 q1
def zT:TS:=λ_ _ _=>False
theorem uh {sts:List Stmt}:PSs X sts zT:=λ_ _ _ _ _ _ h=>h.elim
end
abbrev TG:=V->St->Hp->(St->Hp->Prop)->Prop
abbrev TGs:=List V->St->Hp->(St->Hp->Prop)->Prop
def PG (X:Cx) (target:Expr) (t:TG):Prop :=
 ∀(pins:F2) (s:Shared) (U:St) (H:Hp) (v:V) (u:Value) (Q:St->Hp->Prop),Inv X pins U H s->aZ v u->t v U H Q ->
  wpAny (model X.prog X.w) X.A (assign target X.env u) (λ_ s'=>∃σ' H',Inv X pins σ' H' s'/\Q σ' H') X.xe s
def PGs (X:Cx) (ts:List Expr) (t:TGs):Prop :=
 ∀(pins:F2) (s:Shared) (U:St) (H:Hp) (vs:List V) (us:List Value) (Q:St->Hp->Prop),Inv X pins U H s->ba vs us->t vs U H Q ->
  wpAny (model X.prog X.w) X.A (assignInOrder ((assignEach ts X.env).map (·.2)) us) (λ_ s'=>∃σ' H',Inv X pins σ' H' s'/\Q σ' H') X.xe s
abbrev yB:=V->V->V->Hp->(Hp->Prop)->Prop
def Ed (X:Cx) (t:yB):Prop :=
 ∀(pins:F2) (s:Shared) (U:St) (H:Hp) (o i v:V) (ov iv u:Value) (Q:Hp->Prop),Inv X pins U H s->aZ o ov->aZ i iv->aZ v u->t o i v H Q ->
  wpAny (model X.prog X.w) X.A (setItem ov iv u) (λ_ s'=>∃H',Inv X pins U H' s'/\Q H') X.xe s
abbrev TIp:=V->V->Hp->VK->Prop
def PIp (X:Cx) (op:Operator) (t:TIp):Prop :=
 ∀(pins:F2) (s:Shared) (U:St) (H:Hp) (x y:V) (v u:Value) (Q:VK),Inv X pins U H s->aZ x v->aZ y u->t x y H Q ->
  wpAny (model X.prog X.w) X.A (inplaceOp op v u) (EP X pins U Q) X.xe s
section
variable {X:Cx} {pos:Pos}
def eE (i:Nat):TG:=λv U H Q=>Q (U.set i (some v)) H
variable {x:Str}
theorem dH {i:Nat} (hN:X.N.Nodup) (hi:X.N[i]?=some x) (hx:Loc X.env.scope x) (hf:X.fn x=true\/X.env.scope.names.lookup x=some .local:=by z_go):PG X (.Name x pos) (eE i):=by
 intro pins s U H v u Q I r h;exact wpAny_assign_Name (jK I hN hi hx r (λs' I'=>⟨_,H,I',h⟩) hf)
theorem bO (i:Nat) (hN:X.N.Nodup) (hi:X.N[i]?=some x:=by rfl) (hx:Loc X.env.scope x:=by z_go) (hf:X.fn x=true\/X.env.scope.names.lookup x=some .local:=by z_go):PG X (.Name x pos) (eE i):=dH hN hi hx hf
def D5:TGs:=λvs U H Q=>vs=[]/\Q U H
def wO (t:TG) (u:TGs):TGs:=λvs U H Q=>∃v r,vs=v::r/\t v U H λσ' H'=>u r σ' H' Q
theorem dX:PGs X [] D5:=by
 intro pins s U H vs us Q I r h;obtain⟨e,h⟩:=h;subst e;cases r;exact assignInOrder_nil ⟨U,H,I,h⟩
variable {e o i tg:Expr}
theorem bC {es:List Expr} {t:TG} {u:TGs} (h1:PG X e t) (h2:PGs X es u)
  (hs:(assignEach (e::es) X.env).map (·.2)=assign e X.env::(assignEach es X.env).map (·.2):=by rfl):PGs X (e::es) (wO t u):=by
 intro pins s U H vs us Q I r h;obtain⟨v,vr,e1,h⟩:=h;subst e1
 cases r with
 | cons r rr =>
 rw[hs];refine assignInOrder_cons (thn (h1 pins s U H _ _ _ I r h) λ_ s1 ⟨σ1,H1,I1,q1⟩=>?_);exact h2 pins s1 σ1 H1 _ _ Q I1 rr q1
def AV (K:PySem.W.Frag) (n:Nat) (t:TGs):TG:=λv U H Q=>∃a xs,v=.ref a/\SqT K H a xs/\xs.length=n/\t xs U H Q
theorem fR {es:List Expr} {k:Nat} {t:TGs} {n:Nat} (hc:X.calm=true) (h:PGs X es t)
  (hn:(assignEach es X.env).length=n:=by rfl) (hst:(assignEach es X.env).findIdx? (·.1)=none:=by rfl):PG X (.Tuple es k pos) (AV X.K n t):=by
 intro pins s U H v u Q I r hw;obtain⟨a,xs,e1,hq,hl,hw⟩:=hw;subst e1;cases r;obtain⟨its,rv,ht,hz⟩:=I.tuple hq;refine assign_Tuple_tuple (I.ok.hd hc) ht (by simp[hn,<-hl,rv.length]) hst λh' hx=>?_;have I1:Inv X pins U H { s with heap:=h' }:=I.kept (t':=s.toks) λb o e=>hx b o (Qz (Ql e)) e;exact h pins _ U H xs _ Q I1 (by simpa using rv) hw
def D4 (to ti:TE) (t:yB):TG:=λv U H Q=>to U H λo H1=>ti U H1 λi H2=>t o i v H2 λH3=>Q U H3
theorem vR {to ti:TE} {t:yB} (ho:PE X o to) (hi:PE X i ti) (hs:Ed X t)
  (ha:∀v,assign (.Subscript o i pos) X.env v=(do
   let ov <-holding [v] (eval o X.env);let iv <-holding [v,ov] (eval i X.env)
   standAt pos
   holding [v,ov,iv] (setItem ov iv v)
   release [v,ov,iv] []):=by intro _;rfl):PG X (.Subscript o i pos) (D4 to ti t):=by
 intro pins s U H v u Q I r h;rw[ha];refine Qb (Q2 (thn (ho pins s U H _ I h) λov s1 ⟨x,H1,I1,r1,q1⟩=>?_));refine Qb (Q2 (thn (hi pins s1 U H1 _ I1 q1) λiv s2 ⟨y,H2,I2,r2,q2⟩=>?_));refine Qb (wpAny_standAt (Qb (Q2 (thn (hs pins s2 U H2 x y v ov iv u _ I2 r1 r2 r q2) λ_ s3 ⟨H3,I3,q3⟩=>?_))));exact wpAny_release ⟨U,H3,I3,q3⟩
def ua (te:TE) (g:TG):TS:=λD U H=>te U H λx H1=>g x U H1 D.nx
variable {te:TE}
theorem j_ {g:TG} (he:PE X e te) (hg:PG X tg g) (hs:swapsWithSole [tg] e pos.line X.env=pure false:=by rfl) (hw:swappedStores [tg] e X.env=pure none:=by rfl)
  (h1:(assignEach [tg] X.env).map (·.2)=[assign tg X.env]:=by rfl):PS X (.Assign [tg] e pos) (ua te g):=by
 intro pins s U H D I h;refine wpAny_Assign_stores (thn (he pins s U H _ I h) λv s1 ⟨x,H1,I1,r1,q1⟩=>?_) hs hw;rw[h1];exact thn (hg pins s1 U H1 x v _ I1 r1 q1) λ_ s2 q=>q
variable {pos':Pos}
theorem vL {i:Nat} (hN:X.N.Nodup) (hi:X.N[i]?=some x) (hx:Loc X.env.scope x) (he:PE X e te) (hs:swapsWith e (some (.Name x pos')) pos.line X.env=pure false:=by rfl) (hf:X.fn x=true\/X.env.scope.names.lookup x=some .local:=by z_go) :
  PS X (.Assign [.Name x pos'] e pos) (ua te (eE i)):=by
 intro pins s U H D I h;refine wpAny_Assign_Name (thn (he pins s U H _ I h) λv s1 ⟨y,H1,I1,r1,q1⟩=>?_) hs;exact jK I1 hN hi hx r1 (λs2 I2=>⟨_,H1,I2,q1⟩) hf
theorem aF (i:Nat) (hN:X.N.Nodup) (he:PE X e te) (hi:X.N[i]?=some x:=by rfl) (hx:Loc X.env.scope x:=by z_go) (hs:swapsWith e (some (.Name x pos')) pos.line X.env=pure false:=by rfl) (hf:X.fn x=true\/X.env.scope.names.lookup x=some .local:=by z_go):PS X (.Assign [.Name x pos'] e pos) (ua te (eE i)):=vL hN hi hx he hs hf
def Ej (i:Nat) (te:TE) (ti:TIp):TS:=λD U H=>∃x,U[i]?=some (some x)/\te U H λy H1=>ti x y H1 λz H2=>D.nx (U.set i (some z)) H2
theorem vM {i:Nat} {op:Operator} {ti:TIp} (hN:X.N.Nodup) (hi:X.N[i]?=some x) (hx:Loc X.env.scope x) (he:PE X e te) (ho:PIp X op ti) (hf:X.fn x=true\/X.env.scope.names.lookup x=some .local:=by z_go) :
  PS X (.AugAssign (.Name x pos') op e pos) (Ej i te ti):=by
 intro pins s U H D I h;obtain⟨v,e1,h⟩:=h;obtain⟨m,hn,hl⟩:=I.loc;have vis:Vis X.env.scope x:=by rcases hx with k|k;exact .inl k;exact .inr (.inl k)
 obtain⟨u,r,l⟩:=hl i x v hi e1 vis;refine wpAny_AugAssign_Name ?_
 have go:wpAny (model X.prog X.w) X.A (eval e X.env) (λw s₂=>wpAny (model X.prog X.w) X.A (inplaceOp op u w) (λr s₃=>wpAny (model X.prog X.w) X.A (storeName X.env x r) (λ_=>SP X pins D .next) X.xe s₃) X.xe s₂) X.xe s:=by
  refine thn (he pins s U H _ I h) λw s1 ⟨y,H1,I1,r1,q1⟩=>?_;refine thn (ho pins s1 U H1 v y u w _ I1 r r1 q1) λz s2 ⟨zv,H2,I2,r2,q2⟩=>?_;exact jK I2 hN hi hx r2 (λs3 I3=>⟨_,H2,I3,q2⟩) hf
 rcases l with⟨hk,hm⟩|⟨hk,c,hc,hcell⟩
 ·exact wpAny_loadName_local I.ok.kind hk hn hm go
 rcases hk with hk|hk
 ·exact wpAny_loadName_cell I.ok.kind hk hc hcell go
 rcases hx with k|k
 ·have:X.env.scope.names.lookup x=some .free:=hk;rw[k]at this;cases this
 have:X.env.scope.names.lookup x=some .free:=hk;rw[k]at this;cases this
def ipI (f:Int->Int->Int):TIp:=λx y H Q=>∃i j,x=.int i/\y=.int j/\Q (.int (f i j)) H
theorem wH:PIp X .Add (ipI λi j=>i+j):=by
 intro pins s U H x y v u Q I r1 r2 h;obtain⟨i,j,e1,e2,q⟩:=h;subst e1;subst e2;obtain⟨t,rfl⟩:=r1;obtain⟨t',rfl⟩:=r2;exact iadd_int {.int _,H,I.tok _,⟨_,rfl⟩,q}
end
section
variable {X:Cx} {pos:Pos}
def zS (c:TT) (tb:TS):TS:=λD U H=>∃W:Nat->St->Hp->Prop,(∃m,W m U H)/\∀m U H,W m U H ->
 c U H λb H1=>if b=true then ∃N:St->Hp->Prop,(∀σ' H',N σ' H'->∃m',m'<m/\W m' σ' H')/\tb { D with nx:=N,ct:=N,bk:=D.nx } U H1 else D.nx U H1
theorem fQ {c:Expr} {body:List Stmt} {tc:TT} {tb:TS} (hp:PassesOwn (model X.prog X.w) X.A X.env X.xe) (hc:PT X c tc) (hb:PSs X body tb):PS X (.While c body [] pos) (zS tc tb):=by
 intro pins s U H D I h;obtain⟨W,⟨m0,w0⟩,turn⟩:=h;refine wpAny_While (codeAny_whileLoop (λn s'=>∃σ' H',Inv X pins σ' H' s'/\W n σ' H') ?_ m0 ⟨U,H,I,w0⟩);rintro n s1 ⟨σ1,H1,I1,w1⟩;refine wpAny_passesOwn hp (thn (hc pins s1 σ1 H1 _ I1 (turn n σ1 H1 w1)) λb s2 ⟨H2,I2,q2⟩=>?_)
 cases b with
 | true =>
  obtain⟨N,hN,q2⟩:=q2;rw[QL rfl];refine wpAny_passesOwn hp (thn (hb pins s2 σ1 H2 _ I2 q2) λf s3 q3=>?_)
  cases f with
  | next =>
   obtain⟨σ3,H3,I3,n3⟩:=q3;obtain⟨m',hm,w3⟩:=hN σ3 H3 n3;exact⟨m',hm,σ3,H3,I3,w3⟩
  | cont =>
   obtain⟨σ3,H3,I3,n3⟩:=q3;obtain⟨m',hm,w3⟩:=hN σ3 H3 n3;exact⟨m',hm,σ3,H3,I3,w3⟩
  | brk=>exact q3
  | ret v=>exact q3
 | false =>
 rw[QI Qn];exact wpAny_execs_nil ⟨σ1,H2,I2,q2⟩
end
structure It where
 go:Nat->Hp->Prop
 yld:Nat->Hp->V->Hp->Prop
 stop:Nat->Hp->Prop
def hV (X:Cx) (pins:F2) (H:Hp) (b:Addr):Prop :=
 H b=none/\b≠X.env.locals/\b∉X.fs/\(b∈X.ex\/X.s₀.heap.objs.size<=b)/\(∀x c,X.env.cells.lookup x=some c->c≠b)/\∀p∈X.pn++pins,p.1≠b
theorem Inv.fpOk {pins:F2} {U:St} (I:Inv X pins U H s) (hb:s.heap.objs.size<=b) (hn:H' b=none):hV X pins H' b:=by
 refine{hn,XE (QK I.lt hb),I.nofs hb,.inr (QX I.sz hb),λx c e z=>?_,λp hp z=>?_}
 ·obtain⟨v,q⟩:=I.cell x c e;exact absurd (QK q.lt (by rw[z];exact hb)) (Nat.lt_irrefl _)
 exact absurd (QK (Ql (I.pin p hp).1) (by rw[z];exact hb)) (Nat.lt_irrefl _)
structure Turn (P:Program) (w:World) (K:PySem.W.Frag) (tg:Expr) (J:It) (fp:F4) (it:Addr) (tn:Nat->Heap->Prop):Prop where
 mem:it∈fp
 obj:∀i h,tn i h->∀b∈fp,∃o,h.get? b=some o/\∀v,o.data≠.cell v
 keep:∀i h h',tn i h->(∀b∈fp,∀o,h.get? b=some o->h'.get? b=some o)->tn i h'
 item:∀(X:Cx),X.prog=P->X.w=w->X.K=K->X.calm=true->∀(i:Nat) (pins:F2) (s:Shared) (U:St) (H:Hp) (E:F1),Inv X pins U H s->(∀b∈fp,hV X pins H b)->tn i s.heap->J.go i H ->
  wpAny (model P w) X.A (pyNext (.ref it)) (λr s1=>∃u,r=some u /\
   wpAny (model P w) X.A (letOwnedTupleGo tg (.ref it) u) (λ_ s2=>∃x H',Inv X pins U H' s2/\aZ x u/\J.yld i H x H'/\tn (i+1) s2.heap/\∀b∈fp,H' b=none) E s1) E s
 done:∀(X:Cx),X.prog=P->X.w=w->X.K=K->X.calm=true->∀(i:Nat) (pins:F2) (s:Shared) (U:St) (H:Hp) (E:F1),Inv X pins U H s->(∀b∈fp,hV X pins H b)->tn i s.heap->J.stop i H ->
  wpAny (model P w) X.A (pyNext (.ref it)) (λr s1=>r=none/\Inv X pins U H s1) E s
 self:∀(A:Around) (i:Nat) (s:Shared) (Q:F1) (E:F1),tn i s.heap->Q (.ref it) s->wpAny (model P w) A (pyIter (.ref it)) Q E s
abbrev TI:=St->Hp->(It->Hp->Prop)->Prop
def PIE (X:Cx) (pins:F2) (U:St) (tg:Expr) (R:It->Hp->Prop) (itv:Value) (s2:Shared):Prop :=
 ∃(it:Addr) (fp:F4) (tn:Nat->Heap->Prop) (J:It) (H':Hp),itv=.ref it/\Inv X pins U H' s2/\Turn X.prog X.w X.K tg J fp it tn/\tn 0 s2.heap/\(∀b∈fp,hV X pins H' b)/\R J H'
def PI (X:Cx) (tg iter:Expr) (wi:TI):Prop :=
 ∀(pins:F2) (s:Shared) (U:St) (H:Hp) (R:It->Hp->Prop),Inv X pins U H s->wi U H R ->
  wpAny (model X.prog X.w) X.A (eval iter X.env) (λv s1=>wpAny (model X.prog X.w) X.A (pyIter v) (PIE X pins U tg R) X.xe s1) X.xe s
theorem wM {M:Model} {s:Shared} {o:Obj} {n:String} {vs:Array Value} {Q:Unit->Shared->Prop} (ho:s.heap.get? it=some o) (hc:o.cls=.type n) (hd:o.data=.fields vs)
  (hn:["enumerate", "zip", "dict_itemiterator", "dict_reverseitemiterator", "odict_iterator", "itertools.zip_longest", "itertools.pairwise"].contains n=false) (hQ:Q () s):wpAny M A (letOwnedTupleGo tg (.ref it) u) Q E s:=by
 unfold letOwnedTupleGo
 cases tg <;> first
  | exact Qf hQ
  | (cases u <;> first
    | exact Qf hQ
    |(refine Qb (wpAny_load ho ?_)
      rw[hc,hd];show wpAny M A (if (["enumerate", "zip", "dict_itemiterator", "dict_reverseitemiterator", "odict_iterator", "itertools.zip_longest", "itertools.pairwise"].contains n&&vs[0]?==some (rawInt _))=true then _ else _) Q E s;rw[QI (by intro h;rw[hn,Bool.false_and]at h;cases h)]
      exact Qf hQ))
def Itl (K:PySem.W.Frag) (a:Addr):It :=
 {λi H=>∃xs x,SqL K H a xs/\xs[i]?=some x,λi H x H'=>H'=H/\∀xs,SqL K H a xs->xs[i]?=some x,λi H=>∃xs,SqL K H a xs/\xs.length<=i}
def Itr (lo:Int) (n:Nat):It:={λi _=>i<n,λi H x H'=>H'=H/\x=.int (lo+i),λi _=>n<=i}
variable {K:PySem.W.Frag}
theorem turn_list (a it:Addr):Turn P w K tg (Itl K a) [it] it (λi h=>h.IsListIter it a i) where
 mem:=by simp
 obj:=λi h st b hb=>by
  have e:b=it:=by simpa using hb
  subst e;obtain⟨o,e,c,d⟩:=st;exact{o,e,λv z=>by rw[d]at z;cases z}
 keep:=λi h h' st k=>st.at λo e=>k it (by simp) o e
 item:=by
  intro X hP hw hK hc i pins s U H E I hf st hg;subst hP hw hK;obtain⟨xs,x,hq,hx⟩:=hg;obtain⟨its,rv,p,hz⟩:=I.list hq;obtain⟨u,hu,ru⟩:=rv.get hx;obtain⟨f0,f1,f2,f3,f4,f5⟩:=hf it (by simp);refine wpAny_pyNext_list_item st p.isList (x:=u) (by simpa using hu) λh' st' sb=>?_;have I1:Inv X pins U H { s with heap:=h' }:=I.turned (t':=s.toks) (λb o hb e=>(sb.2 b hb).trans e) f0 f1 f3 f4 f5;obtain⟨o,e,c,d⟩:=id st';exact{u,rfl,wM (s:={ s with heap:=h' }) e c d (by decide) {x,H,I1,ru,{rfl,λys hy=>by rw[I.list_inj hy hq];exact hx},st',λb hb=>(hf b hb).1} }
 done:=by
  intro X hP hw hK hc i pins s U H E I hf st hg;subst hP hw hK;obtain⟨xs,hq,hx⟩:=hg;obtain⟨its,rv,p,hz⟩:=I.list hq;obtain⟨f0,f1,f2,f3,f4,f5⟩:=hf it (by simp);have hl:=rv.length;exact wpAny_pyNext_list_end (I.ok.hd hc) st p.isList (by simp;omega) λh' eb=>{rfl,I.turned (t':=s.toks) (λb o hb e=>eb b o hb e) f0 f1 f3 f4 f5}
 self:=λ_ _ _ _ _ st h=>wpAny_pyIter_listiter st h
theorem qQ (it:Addr) (lo:Int) (n:Nat):Turn P w K tg (Itr lo n) [it] it (λi h=>IsRangeIter h it (lo+(i:Nat)*1) ((n:Int)-(i:Nat)) 1) where
 mem:=by simp
 obj:=λi h st b hb=>by
  have e:b=it:=by simpa using hb
  subst e
  exact{_,st,λv z=>by
   have z':Data.fields _=Data.cell v:=z
   cases z'}
 keep:=λi h h' st k=>k it (by simp) _ st
 item:=by
  intro X hP hw hK hc i pins s U H E I hf st hg;subst hP hw hK;obtain⟨f0,f1,f2,f3,f4,f5⟩:=hf it (by simp);have W:=Walks.range (prog:=X.prog) (w:=X.w) (I.ok.hd hc) it lo 1 n;refine W.item i s _ _ hg st λv h' tk hv st' kk=>?_;obtain⟨t,rfl⟩:=hv;have I1:Inv X pins U H { s with heap:=h',toks:=tk }:=I.turned (λb o hb e=>kk b o (by simpa using hb) e) f0 f1 f3 f4 f5;refine{_,rfl,wM (s:={ s with heap:=h',toks:=tk }) (n := "range_iterator") st' rfl rfl (by decide) {.int (lo+i),H,I1,{t,?_},⟨rfl,rfl⟩,st',λb hb=>(hf b hb).1} };rw[Int.mul_one]
 done:=by
  intro X hP hw hK hc i pins s U H E I hf st hg;subst hP hw hK;obtain⟨f0,f1,f2,f3,f4,f5⟩:=hf it (by simp);exact wpAny_pyNext_range_end (I.ok.hd hc) st (by have:n<=i:=hg;omega) λh' eb=>{rfl,I.turned (t':=s.toks) (λb o hb e=>eb b o hb e) f0 f1 f3 f4 f5}
 self:=λ_ _ _ _ _ st h=>wpAny_pyIter_rangeiter st h
section
variable {X:Cx} {tg:Expr}
def mN (K:PySem.W.Frag) (tl:TE):TI:=λU H R=>tl U H λx H1=>∃a,x=.ref a/\(∃xs,SqL K H1 a xs)/\R (Itl K a) H1
variable {l a iter:Expr}
theorem bx {tl:TE} (hl:PE X l tl):PI X tg l (mN X.K tl):=by
 intro pins s U H R I h;refine thn (hl pins s U H _ I h) λv s1 ⟨x,H1,I1,r1,q1⟩=>?_;obtain⟨a,e,⟨xs,hq⟩,q⟩:=q1;subst e;cases r1;obtain⟨its,rv,p,hz⟩:=I1.list hq;refine wpAny_pyIter_list p.isList ?_;refine{s1.heap.objs.size,[s1.heap.objs.size],_,_,H1,rfl,I1.kept (t':=s1.toks) λb o e=>Qd _ e,turn_list a _,{_,Qq _ rfl,rfl,rfl},λb hb=>?_,q};have e:b=s1.heap.objs.size:=by simpa using hb
 subst e;exact I1.fpOk (Qh _) (I1.hok.fresh (Qh _))
variable {s:Shared} {pins pl:F2}
theorem pR {U:St} {H:Hp} {R:It->Hp->Prop} {E:F1} {lo hi:Int} {t u v:Tok} {tk:Nat} (I:Inv X pins U H s) (h1:-(2 ^ 62)<=lo) (h2:lo<2 ^ 62) (h3:-(2 ^ 62)<=hi) (h4:hi<2 ^ 62)
  (q:R (Itr lo (hi-lo).toNat) H):wpAny (model X.prog X.w) X.A (pyIter (.ref s.heap.objs.size)) (PIE X pins U tg R) E { s with heap:=s.heap.push { cls:=.type "range", data:=.fields #[.int lo t,.int hi u,.int 1 v] },toks:=tk }:=by
 refine wpAny_pyIter_range (IsRange.new ..) (small_one h1 h2 h3 h4) ?_;have I1:Inv X pins U H { s with heap:=s.heap.push { cls:=.type "range", data:=.fields #[.int lo t,.int hi u,.int 1 v] },toks:=tk }:=I.kept λb o e=>Qd _ e
 refine{(s.heap.push { cls:=.type "range", data:=.fields #[.int lo t,.int hi u,.int 1 v] }).objs.size,[(s.heap.push { cls:=.type "range", data:=.fields #[.int lo t,.int hi u,.int 1 v] }).objs.size],_,_,H,rfl,
  I1.kept (t':=tk) λb o e=>Qd _ e,qQ _ lo (hi-lo).toNat,?_,λb hb=>?_,q}
 ·have e1:lo+((0:Nat):Int)*1=lo:=by simp
  have e2:(((hi-lo).toNat:Nat):Int)-((0:Nat):Int)=Builtin.Range.rangeSize lo hi 1:=by rw[rangeSize_one];split <;> omega
  show IsRangeIter _ _ (lo+((0:Nat):Int)*1) ((((hi-lo).toNat:Nat):Int)-((0:Nat):Int)) 1;rw[e1,e2];exact Qq _ rfl
 have e:b=(s.heap.push { cls:=.type "range", data:=.fields #[.int lo t,.int hi u,.int 1 v] }).objs.size:=by simpa using hb
 subst e;exact I1.fpOk (Qh _) (I1.hok.fresh (Qh _))
def zM (ta:TA):TI:=λU H R=>ta U H λvs H1=>∃j:Int,vs=[.int j]/\-(2 ^ 62)<=j/\j<2 ^ 62/\R (Itr 0 j.toNat) H1
def D2 (ta:TA):TI:=λU H R=>ta U H λvs H1=>∃i j:Int,vs=[.int i,.int j]/\(-(2 ^ 62)<=i/\i<2 ^ 62/\-(2 ^ 62)<=j/\j<2 ^ 62)/\R (Itr i (j-i).toNat) H1
theorem ce {ta:TA} {p pos:Pos} (hg:Gl X "range") (hm:X.mg "range" = none) (ha:PA X [a] ta) (hs:starEach [a] X.env=[(false,eval a X.env)]:=by rfl):PI X tg (.Call (.Name "range" p) [a] [] pos) (zM ta):=by
 intro pins s U H R I h;refine Call_ (dR I hg hm boot_range (Xe (thn (ha pos pins s U H _ I h) λus s1 ⟨vs,H1,I1,r1,q1⟩=>?_) hs rfl));obtain⟨j,e,q1,q2,q⟩:=q1;subst e
 cases r1 with
 | cons r rr =>
 cases rr;obtain⟨t,rfl⟩:=r;exact call_range_1 (pR I1 ⋯ ⋯ q1 q2 (by simpa using q))
theorem um {b:Expr} {ta:TA} {p pos:Pos} (hg:Gl X "range") (hm:X.mg "range" = none) (ha:PA X [a,b] ta) (hs:starEach [a,b] X.env=[(false,eval a X.env),(false,eval b X.env)]:=by rfl) (hs2:starEach [b] X.env=[(false,eval b X.env)]:=by rfl) :
  PI X tg (.Call (.Name "range" p) [a,b] [] pos) (D2 ta):=by
 intro pins s U H R I h;refine Call_ (dR I hg hm boot_range (Xe (thn (ha pos pins s U H _ I h) λus s1 ⟨vs,H1,I1,r1,q1⟩=>?_) (by rw[hs,hs2]) (by rw[hs2];rfl)));obtain⟨i,j,e,⟨q1,q2,q3,q4⟩,q⟩:=q1;subst e
 cases r1 with
 | cons r rr =>
 cases rr with
 | cons r' rr =>
 cases rr;obtain⟨t,rfl⟩:=r;obtain⟨t',rfl⟩:=r';exact call_range_2 (pR I1 q1 q2 q3 q4 q)
def Bc (wi:TI) (g:TG) (tb:TS):TS:=λD U H=>wi U H λJ H1=>∃W:Nat->Nat->St->Hp->Prop,(∃m,W 0 m U H1)/\∀i m U H,W i m U H ->
 (J.stop i H/\D.nx U H)\/(J.go i H/\∃N:St->Hp->Prop,(∀σ' H',N σ' H'->∃m',m'<m/\W (i+1) m' σ' H')/\∀x H',J.yld i H x H'->g x U H' λσ2 H2=>tb { D with nx:=N,ct:=N,bk:=D.nx } σ2 H2)
def iM (fp:F4) (h:Heap):F2:=fp.filterMap λb=>(h.get? b).map λo=>(b,o)
variable {fp:F4}
theorem dC {h:Heap} {b:Addr} {o:Obj} (hb:b∈fp) (e:h.get? b=some o):(b,o)∈iM fp h:=List.mem_filterMap.mpr {b,hb,by rw[e];rfl}
theorem uG {h:Heap} {p:Addr × Obj} (hp:p∈iM fp h):p.1∈fp/\h.get? p.1=some p.2:=by
 obtain⟨b,hb,e⟩:=List.mem_filterMap.mp hp
 cases q:h.get? b with
 | none=>rw[q]at e;cases e
 | some o =>
 rw[q]at e;have e':(b,o)=p:=Q0 e;subst e';exact⟨hb,q⟩
theorem Inv.pinned {U:St} {H:Hp} (I:Inv X pins U H s) (hf:∀b∈fp,hV X pins H b) (ho:∀b∈fp,∃o,s.heap.get? b=some o/\∀v,o.data≠.cell v):Inv X (pins++iM fp s.heap) U H s :=
 I.pins_of λp hp=>(Qp.mp hp).elim (λz=>I.pin p (QR _ z)) λz=>by
  obtain⟨hb,e⟩:=uG z;obtain⟨f0,f1,f2,_⟩:=hf p.1 hb;obtain⟨o,e',d⟩:=ho p.1 hb;rw[e]at e';cases e';exact⟨e,f0,f1,f2,d⟩
theorem Inv.unpinned {U:St} {H:Hp} (I:Inv X (pins++pl) U H s):Inv X pins U H s:=I.pins_of λp hp=>I.pin p (QR _ (XV _ hp))
theorem ps_for {body:List Stmt} {wi:TI} {g:TG} {tb:TS} {pos:Pos} (hp:PassesOwn (model X.prog X.w) X.A X.env X.xe) (hc:X.calm=true) (hi:PI X tg iter wi) (hg:PG X tg g) (hb:PSs X body tb)
  (hs:∀x,foldedSetIterable iter X.env x=pure x:=by intro _;rfl):PS X (.For tg iter body [] pos) (Bc wi g tb):=by
 intro pins s U H D I h;refine wpAny_For (thn (hi pins s U H _ I h) λv s1 h1=>thn h1 λitv s2 h2=>?_) hs;obtain⟨it,fp,tn,J,H2,e,I2,T,st2,f2,W,⟨m0,w0⟩,turn⟩:=h2;subst e
 have stat:∀{H':Hp},(∀b∈fp,H' b=none)->∀b∈fp,hV X pins H' b:=λhn b hb=>{hn b hb,(f2 b hb).2};refine codeAny_forLoop_any (λn s'=>∃i σ' H',Inv X pins σ' H' s'/\tn i s'.heap/\(∀b∈fp,H' b=none)/\W i n σ' H') ?_ m0 {0,U,H2,I2,st2,λb hb=>(f2 b hb).1,w0};rintro n s3 ⟨i,σ3,H3,I3,st3,fr3,w3⟩;rcases turn i n σ3 H3 w3 with⟨stop,qn⟩|⟨go,N,hN,step⟩
 ·refine wpAny_passesOwn hp (thn (T.done X rfl rfl rfl hc i pins s3 σ3 H3 X.xe I3 (stat fr3) st3 stop) λr s4 ⟨hr,I4⟩=>?_);subst hr;exact wpAny_execs_nil ⟨σ3,H3,I4,qn⟩
 refine wpAny_passesOwn hp (thn (T.item X rfl rfl rfl hc i pins s3 σ3 H3 X.xe I3 (stat fr3) st3 go) λr s4 ⟨u,hr,h4⟩=>?_);subst hr;refine wpAny_passesOwn hp (thn h4 λ_ s5 ⟨x,H5,I5,r5,y5,st5,fr5⟩=>?_);have I5':=I5.pinned (stat fr5) (T.obj _ _ st5);refine wpAny_passesOwn hp (thn (hg _ s5 σ3 H5 x u _ I5' r5 (step x H5 y5)) λ_ s6 ⟨σ6,H6,I6,q6⟩=>?_);refine wpAny_passesOwn hp (thn (hb _ s6 σ6 H6 _ I6 q6) λf s7 q7=>?_)
 have again:∀{σ7:St} {H7:Hp},Inv X (pins++iM fp s5.heap) σ7 H7 s7->N σ7 H7->∃m,m<n/\∃i σ' H',Inv X pins σ' H' s7/\tn i s7.heap/\(∀b∈fp,H' b=none)/\W i m σ' H':=λ{σ7 H7} I7 n7=>by
  obtain⟨m',hm,w7⟩:=hN σ7 H7 n7;refine{m',hm,i+1,σ7,H7,I7.unpinned,T.keep _ _ _ st5 λb hb o e=>(I7.pin (b,o) (QR _ (QR _ (dC hb e)))).1,λb hb=>?_,w7};obtain⟨o,e,d⟩:=T.obj _ _ st5 b hb;exact(I7.pin (b,o) (QR _ (QR _ (dC hb e)))).2.1
 cases f with
 | next=>obtain⟨σ7,H7,I7,n7⟩:=q7;exact again I7 n7
 | cont=>obtain⟨σ7,H7,I7,n7⟩:=q7;exact again I7 n7
 | brk=>obtain⟨σ7,H7,I7,q7⟩:=q7;exact⟨σ7,H7,I7.unpinned,q7⟩
 | ret v=>obtain⟨x7,σ7,H7,I7,r7,q7⟩:=q7;exact⟨x7,σ7,H7,I7.unpinned,r7,q7⟩
end
theorem dO {K:PySem.W.Frag} {xs:List V} {g:TG} {tb:TS} {D:Ends} {U:St} (Pv:Nat->St->Hp->Prop) (h0:Pv 0 U H) (hl:∀i U H,i<=xs.length->Pv i U H->SqL K H a xs)
  (hs:∀i x U H,xs[i]?=some x->Pv i U H->g x U H λσ2 H2=>tb { D with nx:=Pv (i+1),ct:=Pv (i+1),bk:=D.nx } σ2 H2) (hd:∀U H,Pv xs.length U H->D.nx U H) :
  ∃W:Nat->Nat->St->Hp->Prop,(∃m,W 0 m U H)/\∀i m U H,W i m U H ->
   ((Itl K a).stop i H/\D.nx U H)\/((Itl K a).go i H/\∃N:St->Hp->Prop,(∀σ' H',N σ' H'->∃m',m'<m/\W (i+1) m' σ' H')/\∀x H',(Itl K a).yld i H x H'->g x U H' λσ2 H2=>tb { D with nx:=N,ct:=N,bk:=D.nx } σ2 H2):=by
 refine{λi m U H=>m=xs.length-i/\i<=xs.length/\Pv i U H,{xs.length,by simp,QG _,h0},?_};rintro i m U H ⟨rfl,hi,p⟩;have q:=hl i U H hi p;by_cases hlt:i<xs.length
 ·refine .inr { {xs,xs[i],q,by simp[hlt]},Pv (i+1),λσ' H' p'=>{xs.length-(i+1),⋯,rfl,hlt,p'},λx H' y=>?_};obtain⟨e,y⟩:=y;subst e;exact hs i x U _ (y xs q) p
 have e:i=xs.length:=by omega
 subst e;exact .inl { {xs,q,Qh _},hd U H p}
theorem cV {lo:Int} {n:Nat} {g:TG} {tb:TS} {D:Ends} {U:St} (Pv:Nat->St->Hp->Prop) (h0:Pv 0 U H)
  (hs:∀i U H,i<n->Pv i U H->g (.int (lo+i)) U H λσ2 H2=>tb { D with nx:=Pv (i+1),ct:=Pv (i+1),bk:=D.nx } σ2 H2) (hd:∀U H,Pv n U H->D.nx U H) :
  ∃W:Nat->Nat->St->Hp->Prop,(∃m,W 0 m U H)/\∀i m U H,W i m U H ->
   ((Itr lo n).stop i H/\D.nx U H)\/((Itr lo n).go i H/\∃N:St->Hp->Prop,(∀σ' H',N σ' H'->∃m',m'<m/\W (i+1) m' σ' H')/\∀x H',(Itr lo n).yld i H x H'->g x U H' λσ2 H2=>tb { D with nx:=N,ct:=N,bk:=D.nx } σ2 H2):=by
 refine{λi m U H=>m=n-i/\i<=n/\Pv i U H,{n,by simp,QG _,h0},?_};rintro i m U H ⟨rfl,hi,p⟩;by_cases hlt:i<n
 ·refine .inr {hlt,Pv (i+1),λσ' H' p'=>{n-(i+1),⋯,rfl,hlt,p'},λx H' y=>?_};obtain⟨e,y⟩:=y;subst e y;exact hs i U _ hlt p
 have e:i=n:=by omega
 subst e;exact .inl {Qh _,hd U H p}
abbrev R2:=V->V->Hp->VK->Prop
def OpR (X:Cx) (f:Value->Value->Sem Value) (r:R2):Prop :=
 ∀(pins:F2) (s:Shared) (U:St) (H:Hp) (x y:V) (v u:Value) (Q:VK),Inv X pins U H s->aZ x v->aZ y u->r x y H Q ->
  wpAny (model X.prog X.w) X.A (f v u) (EP X pins U Q) X.xe s
def UnR (X:Cx) (f:Value->Sem Value) (r:V->Hp->VK->Prop):Prop :=
 ∀(pins:F2) (s:Shared) (U:St) (H:Hp) (x:V) (v:Value) (Q:VK),Inv X pins U H s->aZ x v->r x H Q ->
  wpAny (model X.prog X.w) X.A (f v) (EP X pins U Q) X.xe s
def dP (X:Cx) (f:Value) (r:List V->Hp->VK->Prop):Prop :=
 ∀(pins:F2) (s:Shared) (U:St) (H:Hp) (xs:List V) (us:List Value) (Q:VK),Inv X pins U H s->ba xs us->r xs H Q ->
  wpAny (model X.prog X.w) X.A (call f us) (EP X pins U Q) X.xe s
def tOp (r:R2) (ta tb:TE):TE:=λU H Q=>ta U H λx H1=>tb U H1 λy H2=>r x y H2 Q
def tUn (r:V->Hp->VK->Prop) (ta:TE):TE:=λU H Q=>ta U H λx H1=>r x H1 Q
def rI (C:Int->Int->Prop) (g:Int->Int->V):R2:=λx y H Q=>∃i j,x=.int i/\y=.int j/\C i j/\Q (g i j) H
def rI0 (g:Int->Int->V):R2:=λx y H Q=>∃i j,x=.int i/\y=.int j/\Q (g i j) H
def rU (g:Int->V):V->Hp->VK->Prop:=λx H Q=>∃i,x=.int i/\Q (g i) H
section
variable {X:Cx} {a b c:Expr} {ta tb tc:TE} {pos:Pos}
variable {f:Value->Value->Sem Value}
theorem A1 (ha:PE X a ta) (hb:PE X b tb) {pins:F2} {s:Shared} {U:St} {H:Hp} {R:V->V->Hp->Prop} (I:Inv X pins U H s)
  (h:ta U H λx H1=>tb U H1 λy H2=>R x y H2) {Q:F1}
  (hf:∀v u s2 x y H2,Inv X pins U H2 s2->aZ x v->aZ y u->R x y H2->wpAny (model X.prog X.w) X.A (f v u) Q X.xe s2) :
  wpAny (model X.prog X.w) X.A (eval a X.env) (λv s₁=>wpAny (model X.prog X.w) X.A (eval b X.env) (λu s₂=>wpAny (model X.prog X.w) X.A (f v u) Q X.xe s₂) X.xe s₁) X.xe s:=by
 refine thn (ha pins s U H _ I h) λv s1 ⟨x,H1,I1,r1,q1⟩=>?_;refine thn (hb pins s1 U H1 _ I1 q1) λu s2 ⟨y,H2,I2,r2,q2⟩=>?_;exact hf v u s2 x y H2 I2 r1 r2 q2
theorem ap {op:Operator} {r:R2} (ho:OpR X (binaryOp op) r) (ha:PE X a ta) (hb:PE X b tb):PE X (.BinOp a op b pos) (tOp r ta tb):=by
 intro pins s U H Q I h;exact wpAny_BinOp (A1 ha hb I h λv u s2 x y H2 I2 rx ry q=>ho pins s2 U H2 x y v u Q I2 rx ry q)
theorem i8 {op:UnaryOp} {r:V->Hp->VK->Prop} (ho:UnR X (unaryOp op) r) (ha:PE X a ta):PE X (.UnaryOp op a pos) (tUn r ta):=by
 intro pins s U H Q I h;exact UnaryOp_ (thn (ha pins s U H _ I h) λv s1 ⟨x,H1,I1,r1,q1⟩=>ho pins s1 U H1 x v Q I1 r1 q1)
theorem opI {C:Int->Int->Prop} {g:Int->Int->Int}
  (rule:∀(i j:Int) (t u:Tok) (s:Shared) (Q:F1) (E:F1),C i j->Q (.int (g i j) s.toks) { s with toks:=s.toks+1 }->wpAny (model X.prog X.w) X.A (f (.int i t) (.int j u)) Q E s) :
  OpR X f (rI C λi j=>.int (g i j)):=by
 intro pins s U H x y v u Q I rx ry h;obtain⟨i,j,rfl,rfl,hc,q⟩:=h;obtain⟨t,rfl⟩:=rx;obtain⟨t',rfl⟩:=ry;exact rule i j t t' s _ _ hc {.int (g i j),H,I.tok _,⟨_,rfl⟩,q}
theorem Ao {g:Int->Int->Int}
  (rule:∀(i j:Int) (t u:Tok) (s:Shared) (Q:F1) (E:F1),Q (.int (g i j) s.toks) { s with toks:=s.toks+1 }->wpAny (model X.prog X.w) X.A (f (.int i t) (.int j u)) Q E s) :
  OpR X f (rI0 λi j=>.int (g i j)):=by
 intro pins s U H x y v u Q I rx ry h;obtain⟨i,j,rfl,rfl,q⟩:=h;obtain⟨t,rfl⟩:=rx;obtain⟨t',rfl⟩:=ry;exact rule i j t t' s _ _ {.int (g i j),H,I.tok _,⟨_,rfl⟩,q}
theorem Ap {g:Int->Int->Bool}
  (rule:∀(i j:Int) (t u:Tok) (s:Shared) (Q:F1) (E:F1),Q (.bool (g i j)) s->wpAny (model X.prog X.w) X.A (f (.int i t) (.int j u)) Q E s) :
  OpR X f (rI0 λi j=>.bl (g i j)):=by
 intro pins s U H x y v u Q I rx ry h;obtain⟨i,j,rfl,rfl,q⟩:=h;obtain⟨t,rfl⟩:=rx;obtain⟨t',rfl⟩:=ry;exact rule i j t t' s _ _ {.bl (g i j),H,I,rfl,q}
def Eg (i j:Int):Prop:=0<j/\j<1073741824
def Fw (i j:Int):Prop:=0<=j/\j<=1000000/\i.natAbs<2 ^ 64
def A5 (i j:Int):Prop:=(-(2 ^ 64)<i/\i<2 ^ 64)\/(-(2 ^ 64)<j/\j<2 ^ 64)
theorem A5.ok {i j:Int} (h:A5 i j):IntMulOk i j:=by
 rcases h with⟨h1,h2⟩|⟨h1,h2⟩
 ·exact .of_left (intBits_le_64 h1 h2)
 exact .of_right (intBits_le_64 h1 h2)
theorem qP (k:Nat):(0:Int)<=2 ^ k:=by
 rw[two_pow_cast];exact Int.natCast_nonneg _
theorem aO:OpR X (binaryOp .Add) (rI0 λi j=>.int (i+j)):=Ao λ_ _ _ _ _ _ _ q=>add_int q
theorem fV:OpR X (binaryOp .Sub) (rI0 λi j=>.int (i-j)):=Ao λ_ _ _ _ _ _ _ q=>sub_int q
theorem dQ:OpR X (binaryOp .Mult) (rI A5 λi j=>.int (i*j)):=opI λ_ _ _ _ _ _ _ hc q=>mul_int q hc.ok
theorem cI:OpR X (binaryOp .FloorDiv) (rI Eg λi j=>.int (i / j)):=opI λi j _ _ _ _ _ hc q=>by
 have h1:(0:Int)<j:=hc.1;have h2:j<1073741824:=hc.2;exact floordiv_int ⋯ (by rw[Int.fdiv_eq_ediv_of_nonneg i ⋯];exact q) (.inl (PyProof.noPylong_small ⋯))
theorem aR:OpR X (binaryOp .Mod) (rI (λ_ j=>0<j) λi j=>.int (i % j)):=opI λi j _ _ _ _ _ hc q=>by
 have h1:(0:Int)<j:=hc;exact mod_int' ⋯ (by rw[Int.fmod_eq_emod_of_nonneg i ⋯];exact q)
theorem vX:OpR X (binaryOp .Pow) (rI Fw λi j=>.int (i ^ j.toNat)):=opI λ_ _ _ _ _ _ _ hc q=>pow_int_small hc.1 hc.2.1 hc.2.2 q
theorem Am:OpR X (binaryOp .RShift) (rI (λ_ j=>0<=j) λi j=>.int (i / 2 ^ j.toNat)):=opI λi j _ _ _ _ _ hc q =>
 rshift_int hc (by rw[Int.fdiv_eq_ediv_of_nonneg i (qP _)];exact q)
theorem An:OpR X (binaryOp .BitAnd) (rI0 λi j=>.int (Builtin.bitAnd i j)):=Ao λ_ _ _ _ _ _ _ q=>and_int q
theorem unI {f:Value->Sem Value} {g:Int->Int}
  (rule:∀(i:Int) (t:Tok) (s:Shared) (Q:F1) (E:F1),Q (.int (g i) s.toks) { s with toks:=s.toks+1 }->wpAny (model X.prog X.w) X.A (f (.int i t)) Q E s) :
  UnR X f (rU λi=>.int (g i)):=by
 intro pins s U H x v Q I rx h;obtain⟨i,rfl,q⟩:=h;obtain⟨t,rfl⟩:=rx;exact rule i t s _ _ {.int (g i),H,I.tok _,⟨_,rfl⟩,q}
theorem fM:UnR X (unaryOp .USub) (rU λi=>.int (-i)):=unI λ_ _ _ _ _ q=>neg_int q
end
noncomputable def xD:V->V->Bool
 | .non,.non=>true|.non,.int _=>true|.int _,.non=>true|.non,.bl _=>true|.bl _,.non=>true|.non,.str _=>true|.str _,.non=>true
 | .int _,.int _=>true|.bl _,.bl _=>true|.str _,.str _=>true|.byt _,.byt _=>true
 | .int _,.str _=>true|.str _,.int _=>true|.bl _,.str _=>true|.str _,.bl _=>true
 | _,_=>false
def rEq:R2:=λx y H Q=>xD x y=true/\Q (.bl (decide (x=y))) H
def rNe:R2:=λx y H Q=>xD x y=true/\Q (.bl (!decide (x=y))) H
theorem tM {i j:Int}:decide (V.int i=V.int j)=(i==j):=by
 rw[Bool.eq_iff_iff];simp
theorem wW {i j:Bool}:decide (V.bl i=V.bl j)=(i==j):=by
 rw[Bool.eq_iff_iff];simp
theorem tK {i j:Str}:decide (V.str i=V.str j)=(i==j):=by
 rw[Bool.eq_iff_iff];simp
theorem tN {i j:Array UInt8}:decide (V.byt i=V.byt j)=(i.toList==j.toList):=by
 rw[Bool.eq_iff_iff];cases i;cases j;simp
section
variable {X:Cx} {a b c:Expr} {ta tb tc:TE} {pos:Pos}
theorem bw {pins:F2} {U:St} {H:Hp} {s:Shared} {Q:VK} {k k':Bool} (I:Inv X pins U H s) (q:Q (.bl k) H) (e:k=k'):EP X pins U Q (.bool k') s:=by
 subst e;exact{.bl k,H,I,rfl,q}
theorem cH:OpR X (compareOp .Eq) rEq:=by
 intro pins s U H x y v u Q I rx ry h;obtain⟨hs,q⟩:=h
 cases x with
 | non =>
  cases rx
  cases y with
  | non=>cases ry;exact PySem.EqNone.eq_none_none (bw I q (by simp))
  | bl j=>cases ry;exact PySem.EqNone.eq_none_bool (bw I q (by simp))
  | int j=>obtain⟨t',rfl⟩:=ry;exact PySem.EqNone.eq_none_int (bw I q (by simp))
  | str j=>obtain⟨t',rfl⟩:=ry;exact PySem.EqNone.eq_none_str (bw I q (by simp))
  | _=>exact absurd (show false=true from hs) Qn
 | bl i =>
  cases rx
  cases y with
  | non=>cases ry;exact PySem.EqNone.eq_bool_none (bw I q (by simp))
  | bl j=>cases ry;exact eq_bool (bw I q wW)
  | str j=>obtain⟨t',rfl⟩:=ry;exact PySem.EqMixed.eq_bool_str (bw I q (by simp))
  | _=>exact absurd (show false=true from hs) Qn
 | int i =>
  obtain⟨t,rfl⟩:=rx
  cases y with
  | non=>cases ry;exact PySem.EqNone.eq_int_none (bw I q (by simp))
  | int j=>obtain⟨t',rfl⟩:=ry;exact eq_int (bw I q tM)
  | str j=>obtain⟨t',rfl⟩:=ry;exact PySem.EqMixed.eq_int_str (bw I q (by simp))
  | _=>exact absurd (show false=true from hs) Qn
 | str i =>
  obtain⟨t,rfl⟩:=rx
  cases y with
  | non=>cases ry;exact PySem.EqNone.eq_str_none (bw I q (by simp))
  | bl j=>cases ry;exact PySem.EqMixed.eq_str_bool (bw I q (by simp))
  | int j=>obtain⟨t',rfl⟩:=ry;exact PySem.EqMixed.eq_str_int (bw I q (by simp))
  | str j=>obtain⟨t',rfl⟩:=ry;exact eq_str (bw I q tK)
  | _=>exact absurd (show false=true from hs) Qn
 | byt i =>
  obtain⟨t,rfl⟩:=rx
  cases y with
  | byt j=>obtain⟨t',rfl⟩:=ry;exact PySem.W.eq_bytes (bw I q tN)
  | _=>exact absurd (show false=true from hs) Qn
 | _=>cases y <;> exact absurd (show false=true from hs) Qn
theorem ku:OpR X (compareOp .NotEq) rNe:=by
 intro pins s U H x y v u Q I rx ry h;obtain⟨hs,q⟩:=h
 cases x with
 | non =>
  cases rx
  cases y with
  | non=>cases ry;exact PySem.EqNone.ne_none_none (bw I q (by simp))
  | bl j=>cases ry;exact PySem.EqNone.ne_none_bool (bw I q (by simp))
  | int j=>obtain⟨t',rfl⟩:=ry;exact PySem.EqNone.ne_none_int (bw I q (by simp))
  | str j=>obtain⟨t',rfl⟩:=ry;exact PySem.EqNone.ne_none_str (bw I q (by simp))
  | _=>exact absurd (show false=true from hs) Qn
 | bl i =>
  cases rx
  cases y with
  | non=>cases ry;exact PySem.EqNone.ne_bool_none (bw I q (by simp))
  | bl j=>cases ry;exact ne_bool (bw I q (congrArg not wW))
  | str j=>obtain⟨t',rfl⟩:=ry;exact PySem.EqMixed.ne_bool_str (bw I q (by simp))
  | _=>exact absurd (show false=true from hs) Qn
 | int i =>
  obtain⟨t,rfl⟩:=rx
  cases y with
  | non=>cases ry;exact PySem.EqNone.ne_int_none (bw I q (by simp))
  | int j=>obtain⟨t',rfl⟩:=ry;exact ne_int (bw I q (congrArg not tM))
  | str j=>obtain⟨t',rfl⟩:=ry;exact PySem.EqMixed.ne_int_str (bw I q (by simp))
  | _=>exact absurd (show false=true from hs) Qn
 | str i =>
  obtain⟨t,rfl⟩:=rx
  cases y with
  | non=>cases ry;exact PySem.EqNone.ne_str_none (bw I q (by simp))
  | bl j=>cases ry;exact PySem.EqMixed.ne_str_bool (bw I q (by simp))
  | int j=>obtain⟨t',rfl⟩:=ry;exact PySem.EqMixed.ne_str_int (bw I q (by simp))
  | str j=>obtain⟨t',rfl⟩:=ry;exact ne_str (bw I q (congrArg not tK))
  | _=>exact absurd (show false=true from hs) Qn
 | byt i =>
  obtain⟨t,rfl⟩:=rx
  cases y with
  | byt j=>obtain⟨t',rfl⟩:=ry;exact PySem.W.ne_bytes (bw I q (congrArg not tN))
  | _=>exact absurd (show false=true from hs) Qn
 | _=>cases y <;> exact absurd (show false=true from hs) Qn
theorem kz:OpR X (compareOp .Lt) (rI0 λi j=>.bl (decide (i<j))):=Ap λ_ _ _ _ _ _ _ q=>lt_int q
theorem vY:OpR X (compareOp .Gt) (rI0 λi j=>.bl (decide (j<i))):=Ap λ_ _ _ _ _ _ _ q=>gt_int q
theorem zc:OpR X (compareOp .GtE) (rI0 λi j=>.bl (decide (j<=i))):=Ap λ_ _ _ _ _ _ _ q=>ge_int q
theorem sY:OpR X (compareOp .IsNot) (λx y H Q=>y=.non/\Q (.bl (!decide (x=.non))) H):=by
 intro pins s U H x y v u Q I rx ry h;obtain⟨rfl,q⟩:=h;cases ry;refine isnot_none_gen (bw I q ?_)
 cases x <;> first
  | (cases rx;rfl)
  | (obtain⟨t,rfl⟩:=rx;rfl)
variable {op:CmpOp}
theorem aP (b:Expr) (h:op≠.In:=by decide) (h2:op≠.NotIn:=by decide):behindInMarks op b=false:=by
 have e1:(op==CmpOp.In)=false:=by cases op <;> first|rfl|exact absurd rfl h
 have e2:(op==CmpOp.NotIn)=false:=by cases op <;> first|rfl|exact absurd rfl h2
 cases b <;> simp[behindInMarks,e1,e2]
theorem dY {r:R2} (ho:OpR X (compareOp op) r) (ha:PE X a ta) (hb:PE X b tb) (hm:behindInMarks op b=false):PE X (.Compare a [op] [b] pos) (tOp r ta tb):=by
 intro pins s U H Q I h;exact wpAny_Compare1 (A1 ha hb I h λv u s2 x y H2 I2 rx ry q=>ho pins s2 U H2 x y v u Q I2 rx ry q) hm
def yH (t:TE):TT:=λU H Q=>t U H λx H'=>∃k,x=.bl k/\Q k H'
theorem aM {r:R2} (ho:OpR X (compareOp op) r) (ha:PE X a ta) (hb:PE X b tb) (hm:behindInMarks op b=false):PT X (.Compare a [op] [b] pos) (yH (tOp r ta tb)):=by
 intro pins s U H Q I h
 refine wpAny_isTrue_Compare1 (thn (ha pins s U H _ I h) λv s1 ⟨x,H1,I1,r1,q1⟩=>thn (hb pins s1 U H1 _ I1 q1) λu s2 ⟨y,H2,I2,r2,q2⟩ =>
  thn (ho pins s2 U H2 x y v u _ I2 r1 r2 q2) λc s3 ⟨z,H3,I3,r3,k,e,q3⟩=>?_) hm
 subst e;cases r3;exact wpAny_truthy_bool ⟨H3,I3,q3⟩
theorem iQ:(sizeLine:Nat)<2 ^ 63:=by rw[Xx];decide
theorem bP:OpR X (binaryOp .Add) (λx y H Q=>∃i j,x=.str i/\y=.str j/\i.length+j.length<=sizeLine/\Q (.str (i++j)) H):=by
 intro pins s U H x y v u Q I rx ry h;obtain⟨i,j,rfl,rfl,hz,q⟩:=h;obtain⟨t,rfl⟩:=rx;obtain⟨t',rfl⟩:=ry;exact add_str (λt' tk=>{.str (i++j),H,I.tok _,⟨_,rfl⟩,q}) hz
theorem d_ {x:V} {us:List Value} (r:ba [x] us):∃u,us=[u]/\aZ x u:=by
 cases r with
 | cons r1 r2=>cases r2;exact⟨_,rfl,r1⟩
theorem sr {x y:V} {us:List Value} (r:ba [x,y] us):∃u w',us=[u,w']/\aZ x u/\aZ y w':=by
 cases r with
 | cons r1 r2 =>
 cases r2 with
 | cons r3 r4=>cases r4;exact⟨_,_,rfl,r1,r3⟩
theorem xh:dP X (.builtin "abs") (λxs H Q=>∃i,xs=[.int i]/\Q (.int (if i<0 then -i else i)) H):=by
 intro pins s U H xs us Q I r h;obtain⟨i,rfl,q⟩:=h;obtain⟨u,rfl,t,rfl⟩:=d_ r;exact call_abs_int λu tk=>{.int (if i<0 then -i else i),H,I.tok _,⟨_,rfl⟩,q}
theorem mY (hc:X.calm=true):dP X (.builtin "min") (λxs H Q=>∃i j,xs=[.int i,.int j]/\Q (.int (if j<i then j else i)) H):=by
 intro pins s U H xs us Q I r h;obtain⟨i,j,rfl,q⟩:=h;obtain⟨u,w',rfl,⟨t,rfl⟩,⟨t',rfl⟩⟩:=sr r;refine min_two_ints (I.ok.hd hc) λh' tk k=>{_,H,I.kept k,?_,q};by_cases hj:j<i
 ·rw[QL hj,QL hj];exact⟨_,rfl⟩
 rw[QI hj,QI hj];exact⟨_,rfl⟩
end
structure ObjM (h:Heap) (x dx C:Addr) (mA:F3):Prop where
 obj:h.get? x=some (PySem.W.instObj C dx)
 ns:h.Ns1 dx mA
 ne:dx≠x
variable {mA mg:F3}
theorem uJ (n:h.Ns1 dx mA):∃od,h.get? dx=some od/\∀name,PySem.W.lookIn name od=some (mA name):=by
 obtain⟨o,es,ep,ho,hd,hk,_,hm⟩:=n;refine{o,ho,λname=>?_};have e:=hm name;unfold nsFind findBy at e;rw[<-Array.find?_toList]at e;unfold PySem.W.lookIn;rw[hd];dsimp only
 split
 ·rename_i y q
  rw[q]at e;exact congrArg some e
 rename_i q
 rw[q]at e
 have a:es.toList.any (·.refKey)=false:=by
  rw[List.any_eq_false];intro y hy;obtain⟨z,t,hkey⟩:=hk y (Array.mem_toList_iff.mp hy);simp[DictEntry.refKey,hkey]
 have a':¬es.toList.any (·.refKey)=true:=by rw[a];exact Qn
 rw[QI a'];exact congrArg some e
theorem ObjM.look {x:Addr} (I:ObjM h x dx C mA):∃od,PySem.W.InstAt h x (PySem.W.instObj C dx) C (some od)/\∀name,PySem.W.lookIn name od=some (mA name) :=
 let ⟨od,ho,hl⟩:=uJ I.ns
 {od,⟨I.obj,rfl,rfl,ho⟩,hl}
section
variable {prog:Program} {w:World} {A:Around} {E:F1} {s:Shared} {K:PySem.W.Frag} {x dx C f:Addr} {mA:F3} {name:Str} {v:Value}
end
theorem lG.some_of {v:V} {o:Option Value} (r:lG (some v) o):∃u,o=some u/\aZ v u:=by
 cases o with
 | none=>exact(show False from r).elim
 | some u=>exact⟨u,rfl,r⟩
section
variable {P:Program} {w:World} {H H':Hp} {h h':Heap} {a C dx:Addr} {fs fs':List (Str × V)}
theorem yo (hok:HOk P w H h) (e:H a=some (.ins C dx fs)):∃mA,ObjM h a dx C mA/\(∀f,lG (fs.lookup f) (mA f))/\PySem.Within mA (fs.map (·.1))/\fs.length<=1000/\H dx=some (.own a):=by
 obtain⟨d,z,ne,ob,mA,n,r,q⟩:=(show bD P w H h a (.ins C dx fs) from hok a _ e);exact{mA,⟨ob,n,ne⟩,r,q,z,d}
end
structure Cls (K:PySem.W.Frag) (C:Addr):Prop where
 pg:PySem.W.plainGet K C Str.empty=true
 hd:PySem.W.hasDictIn K C=true
 po:PySem.W.plainOver K C=true
 sa:PySem.W.findIn K (.ref C) "__setattr__" = some (some (.builtin "object.__setattr__"))
theorem Cls.get (c:Cls K C) (f:Str):PySem.W.plainGet K C f=true:=c.pg
structure Con (K:PySem.W.Frag) (C:Addr) (f:Str) (v:V) (u:Value):Prop where
 at_:PySem.W.findIn K (.ref C) f=some (some u)
 rel:aZ v u
 get:PySem.W.specialIn K u "__get__" = some none
 cp:PySem.W.copiedNames.contains f=false
structure Meth (K:PySem.W.Frag) (C:Addr) (m:Str) (f:Addr):Prop where
 at_:PySem.W.findIn K (.ref C) m=some (some (.ref f))
 fn:PySem.W.isFn K (.ref f)=true
 kp:PySem.W.keepIn K (.ref f)=true
section
variable {X:Cx} {pins:F2} {U:St} {H:Hp} {s:Shared} {a C dx:Addr} {fs:List (Str × V)} {f:Str} {v:V} {A:Around} {E:F1}
end
def Ef (X:Cx) (op:Operator) (rd:V->V->Hp->VK->Prop):Prop :=
 ∀(pins:F2) (s:Shared) (U:St) (H:Hp) (x y:V) (u v:Value) (Q:VK),Inv X pins U H s->aZ x u->aZ y v->rd x y H Q->wpAny (model X.prog X.w) X.A (inplaceOp op u v) (EP X pins U Q) X.xe s
section
variable {X:Cx} {o e value:Expr} {f:Str} {pos pos' tpos:Pos} {ta tv:TE}
def Ek:V->V->Hp->VK->Prop:=λx y H Q=>∃i j,x=.int i/\y=.int j/\Q (.int (i-j)) H
theorem AS:Ef X .Sub Ek:=by
 rintro pins s U H x y u v Q I rx ry ⟨i,j,rfl,rfl,q⟩;obtain⟨t,rfl⟩:=(show ∃t,u=Value.int i t from rx);obtain⟨t',rfl⟩:=(show ∃t',v=Value.int j t' from ry);exact PyProof.Rows.isub_int {.int (i-j),H,I.tok _,⟨_,rfl⟩,q}
end
section
variable {X:Cx} {pins:F2} {U:St} {H:Hp} {s:Shared} {A:Around} {E:F1} {Q:F1} {c:Value} {b:Bool}
inductive TyOf (K:PySem.W.Frag) (H:Hp):V->Value->Prop where
 | non:TyOf K H .non (.type "NoneType")
 | bl (x:Bool):TyOf K H (.bl x) (.type "bool")
 | int (i:Int):TyOf K H (.int i) (.type "int")
 | str (x:Str):TyOf K H (.str x) (.type "str")
 | flt (x:UInt64):TyOf K H (.flt x) (.type "float")
 | lst {a:Addr} {xs:List V} (e:H a=some (.lst xs)):TyOf K H (.ref a) (.type "list")
 | frz {a:Addr} {o:Obj} {xs:List V} (e:H a=some (.frz o (.lst xs))):TyOf K H (.ref a) (.type "list")
 | tup {a:Addr} {xs:List V} (e:H a=some (.tup xs)):TyOf K H (.ref a) (.type "tuple")
 | dK {a:Addr} {kvs:List (Key × V)} (e:H a=some (.dK kvs)):TyOf K H (.ref a) (.type "dict")
 | dT {a:Addr} {kvs:List (List Key × V)} (e:H a=some (.dT kvs)):TyOf K H (.ref a) (.type "dict")
 | ins {a C dx:Addr} {fs:List (Str × V)} (e:H a=some (.ins C dx fs)) (cl:Cls K C) (ha:PySem.W.findIn K (.ref C) "__class__" = some (some (.builtin "object.__class__")))
   (hn:PySem.W.specialIn K (.builtin "object.__class__") "__get__" = some (some (.builtin "getset_descriptor.__get__"))) (htk:PySem.W.takesIn K (.builtin "object.__class__")=some true)
   (hm:PySem.W.mroIn K C (.type "object")=some true):TyOf K H (.ref a) (.ref C)
theorem uS {x:V} {u t:Value} (I:Inv X pins U H s) (rx:aZ x u) (ty:TyOf X.K H x t) (e:PySem.W.kitOne X.K t c=some b) (h:∀tk,Q (.bool b) { s with toks:=tk }) :
  wpAny (model X.prog X.w) A (call (.builtin "isinstance") [u,c]) Q E s:=by
 cases ty with
 | non=>cases (show u=Value.none from rx);exact XD PySem.W.kitx_none I.kIn True.intro e (λz=>nomatch z) h
 | bl y=>cases (show u=Value.bool y from rx);exact XD PySem.W.kitx_bool I.kIn True.intro e (λz=>nomatch z) h
 | int i=>obtain⟨t,q⟩:=(show ∃t,u=Value.int i t from rx);cases q;exact XD PySem.W.kitx_int I.kIn True.intro e (λz=>nomatch z) h
 | str y=>obtain⟨t,q⟩:=(show ∃t,u=Value.str y t from rx);cases q;exact XD PySem.W.kitx_str I.kIn True.intro e (λz=>nomatch z) h
 | flt y=>obtain⟨t,q⟩:=(show ∃t,u=Value.float y t from rx);cases q;exact XD PySem.W.kitx_float I.kIn True.intro e (λz=>nomatch z) h
 | @lst a xs ea =>
  cases (show u=Value.ref a from rx);obtain⟨_,_,n,_,h1⟩:=(show bD X.prog X.w H s.heap a (.lst xs) from I.hok a _ ea);exact XD PySem.W.kitx_list I.kIn ⟨_,h1,rfl⟩ e (λz=>nomatch z) h
 | @frz a ob xs ea =>
  cases (show u=Value.ref a from rx);obtain⟨_,_,_,n,_,h1⟩:=(show bD X.prog X.w H s.heap a (.frz ob (.lst xs)) from I.hok a _ ea);exact XD PySem.W.kitx_list I.kIn ⟨_,h1,rfl⟩ e (λz=>nomatch z) h
 | @tup a xs ea =>
  cases (show u=Value.ref a from rx);obtain⟨_,_,_,p⟩:=(show bD X.prog X.w H s.heap a (.tup xs) from I.hok a _ ea);obtain⟨o,h1,h2,_⟩:=p;exact XD PySem.W.kitx_tuple I.kIn ⟨o,h1,h2⟩ e (λz=>nomatch z) h
 | @dK a kvs ea =>
  cases (show u=Value.ref a from rx);obtain⟨_,_,vs,_,p⟩:=(show bD X.prog X.w H s.heap a (.dK kvs) from I.hok a _ ea);obtain⟨o,es,ep,h1,h2,_⟩:=p;exact XD PySem.W.kitx_dict I.kIn ⟨o,h1,h2.1⟩ e (λz=>nomatch z) h
 | @dT a kvs ea =>
  cases (show u=Value.ref a from rx);obtain⟨_,_,xs,_,o,es,ep,h1,h2,_⟩:=(show bD X.prog X.w H s.heap a (.dT kvs) from I.hok a _ ea);exact XD PySem.W.kitx_dict I.kIn ⟨o,h1,h2.1⟩ e (λz=>nomatch z) h
 | @ins a C dx fs ea cl ha hn htk hm =>
 cases (show u=Value.ref a from rx);obtain⟨mA,O,_⟩:=yo I.hok ea;obtain⟨od,J,_⟩:=O.look;exact XD (PySem.W.kitx_own (cl.get _) cl.hd ha hn htk hm) I.kIn J e (λz=>nomatch z) h
end
structure Room (k:Nat) (A:Around):Prop where
 hd:A.handled=none
 dp:A.depth+3*k+5<recursionLimit
 un:A.units+16*k+200<cLine
theorem Room.mono {j k:Nat} (r:Room k A) (h:j<=k):Room j A:={r.hd,by have:=r.dp;omega,by have:=r.un;omega}
theorem Room.deeper {k:Nat} (r:Room (k+1) A) (env:Env):Room k (A.deeper env) :=
 {r.hd,by have:=r.dp;show A.depth+1+3*k+5<_;omega,by have:=r.un;show A.units+3+16*k+200<_;omega}
theorem Room.depth {k:Nat} (r:Room k A):A.depth<recursionLimit:=by have:=r.dp;omega
theorem Room.units {k:Nat} (r:Room k A):A.units+64<cLine:=by have:=r.un;omega
def dW:TA:=λ_ H Q=>Q [] H
def bj (ta:TE) (tr:TA):TA:=λU H Q=>ta U H λx H1=>tr U H1 λxs H2=>Q (x::xs) H2
section
variable {X:Cx} {e:Expr} {es:List Expr} {te:TE} {t:TA} {pos:Pos}
theorem ad:PA X [] dW:=λ_ _ _ _ H Q I h=>Calls.spliced_nil {[],H,I,.nil,h}
theorem aa (ha:PE X e te) (hr:PA X es t) (hs:starEach (e::es) X.env=(false,eval e X.env)::starEach es X.env:=by rfl):PA X (e::es) (bj te t):=by
 intro pos pins s U H Q I h;rw[hs];show wpAny _ _ (spliced ((false,eval e X.env)::backTo pos (starEach es X.env))) _ _ s;refine Calls.spliced_cons (thn (ha pins s U H _ I h) λu s1 ⟨x,H1,I1,r1,q1⟩=>?_);exact thn (hr pos pins s1 U H1 _ I1 q1) λus s2 ⟨xs,H2,I2,r2,q2⟩=>{x::xs,H2,I2,.cons r1 r2,q2}
def nj (t:TA):TE:=λU H Q=>t U H λxs H1=>xs.length<=sizeLine/\∀p,H1 p=none->Q (.ref p) (upd H1 p (.tup xs))
def t_ (t:TA):TE:=λU H Q=>t U H λxs H1=>xs.length<=sizeLine/\∀p,H1 p=none->Q (.ref p) (upd H1 p (.lst xs))
theorem bq {x1} (h:PA X es t):PE X (.Tuple es x1 pos) (nj t):=by
 intro pins s U H Q I hq;refine wpAny_Tuple_spliced (thn (h pos pins s U H _ I hq) λus s1 ⟨xs,H1,I1,r,z,q⟩=>{by rw[<-r.length];exact z,?_});have hf:H1 s1.heap.objs.size=none:=I1.hok.fresh (Qh _);refine{.ref s1.heap.objs.size,upd H1 s1.heap.objs.size (.tup xs),I1.laid (t':=s1.toks) (λb u e=>Qd _ e) (Qh _) ?_,rfl,q _ hf};exact{z,us,r,{_,Qq _ rfl,rfl,_,rfl} }
theorem aY (h:PA X es t):PE X (.List es pos) (t_ t):=by
 intro pins s U H Q I hq;refine wpAny_List_spliced (thn (h pos pins s U H _ I hq) λus s1 ⟨xs,H1,I1,r,z,q⟩=>{by rw[<-r.length];exact z,?_});have hf:H1 s1.heap.objs.size=none:=I1.hok.fresh (Qh _);refine{.ref s1.heap.objs.size,upd H1 s1.heap.objs.size (.lst xs),I1.laid (t':=s1.toks) (λb u e=>Qd _ e) (Qh _) ?_,rfl,q _ hf};exact{z,us,0,r,Qq _ rfl}
end
abbrev Sp:=List V->Hp->VK->XK->Prop
abbrev CXT:=List Env->Hp->Shared->XK->F1
structure Env0 (P:Program) (w:World) (K:PySem.W.Frag) (mg:F3) (base:Heap) (A:Around) (outer:List Env) (s:Shared) (H:Hp):Prop where
 frames:A.frames=some outer
 mod:Mod K mg base
 bs:∀b o,base.get? b=some o->s.heap.get? b=some o/\H b=none
 bsz:base.objs.size<=s.heap.objs.size
 funs:s.heap.FunFrames base outer
 frf:∀b∈frs outer,H b=none
 hok:HOk P w H s.heap
 bare:AllBare s.gens
def CE (outer:List Env) (P:Program) (w:World) (H:Hp) (s:Shared) (Q:VK) (u:Value) (s':Shared):Prop :=
 ∃v H',s'.os=s.os/\AllBare s'.gens/\Un (frs outer) [] H H' s.heap s'.heap/\HOk P w H' s'.heap/\aZ v u/\Q v H'
def CR (CX:CXT) (outer:List Env) (P:Program) (w:World) (H:Hp) (s:Shared) (Q:VK) (E:XK) (r:Result) (s':Shared):Prop :=
 match r with
 | .ok (.ret u)=>CE outer P w H s Q u s'
 | .ok _=>False
 | .error e=>CX outer H s E e s'
structure FnOk (P:Program) (w:World) (K:PySem.W.Frag) (mg:F3) (base:Heap) (CX:CXT) (k:Nat) (f:Addr) (fd:FuncData) (ps:List Str) (sp:Sp):Prop where
 len:∀vs H Q E,sp vs H Q E->vs.length=ps.length
 run:∀(A:Around) (outer:List Env) (s:Shared) (H:Hp) (args:Args) (us:List Value) (vs:List V) (Q:VK) (E:XK),Room k A->Env0 P w K mg base A outer s H->BindsTo s fd args (ps.zip us)->ba vs us->sp vs H Q E ->
  codeAny (model P w) A (.call (.ref f) args) (CR CX outer P w H s Q E) s
section
variable {X:Cx} {pins:F2} {U:St} {H:Hp} {s s':Shared}
theorem Inv.env0 (I:Inv X pins U H s):Env0 X.prog X.w X.K X.mg X.base X.A X.stack s H :=
 {I.ok.frames,I.ok.mod,I.bs,QX I.ok.bsz I.sz,I.stack,I.stkFree,I.hok,I.bare}
theorem Inv.after {Q:VK} {u:Value} (I:Inv X pins U H s) (h:CE X.stack X.prog X.w H s Q u s'):EP X pins U Q u s':=by
 obtain⟨v,H',os,bare,un,hok,r,q⟩:=h;obtain⟨hh,g,d,t,os'⟩:=s';obtain rfl:os'=s.os:=os;exact{v,H',I.call (h':=hh) (g':=g) (d':=d) (t':=t) (ch:=[]) un hok bare (λb z=>absurd z (by simp)),r,q}
end
def i5 (sp:Sp) (dvs:List V) (E:XK) (t:TA):TE:=λU H Q=>t U H λvs H1=>sp (vs++dvs) H1 Q E
def gJ (K:PySem.W.Frag) (fd:FuncData) (ps:List Str) (ds:List Value):Prop :=
 ∀(s:Shared) (us:List Value),K.In s.heap->(us++ds).length=ps.length->BindsTo s fd {us,[]} (ps.zip (us++ds))
variable {ps N:List Str}
theorem gJ.all {fd:FuncData} (h:∀us:List Value,us.length=ps.length->bindArgs fd {us,[]}=pure (ps.zip us)):gJ K fd ps []:=λs us _ hl=>by
 rw[List.append_nil]at hl ⊢;exact .of_eq (h us hl)
def lI (CX:CXT) (X:Cx) (E:XK):Prop:=∀(pins:F2) (U:St) (H:Hp) (s:Shared) (e:Value) (s':Shared),Inv X pins U H s->CX X.stack H s E e s'->X.xe e s'
section
variable {X:Cx} {CX:CXT} {k:Nat} {f C:Addr} {fd:FuncData} {ps:List Str} {sp:Sp} {dvs:List V} {ds:List Value} {E:XK} {x m:Str} {p pos apos:Pos} {e o:Expr} {es:List Expr} {ta:TE} {t:TA}
theorem zY {pins:F2} {U:St} {H:Hp} {s:Shared} {Q:VK} {us:List Value} {vs:List V} (F:FnOk X.prog X.w X.K X.mg X.base CX k f fd ps sp) (hr:Room k X.A) (hb:gJ X.K fd ps ds) (hd:ba dvs ds) (hx:lI CX X E)
  (I:Inv X pins U H s) (r:ba vs us) (h:sp (vs++dvs) H Q E):wpAny (model X.prog X.w) X.A (call (.ref f) us) (EP X pins U Q) X.xe s:=by
 have r2:ba (vs++dvs) (us++ds):=r.append hd;have hl:(us++ds).length=ps.length:=by rw[<-r2.length];exact F.len _ _ _ _ h
 refine wpAny_call (codeAny_mono (F.run X.A X.stack s H {us,[]} (us++ds) (vs++dvs) Q E hr I.env0 (hb s us I.kIn hl) r2 h) λr s' hq=>?_)
 cases r with
 | error e=>exact hx pins U H s e s' I hq
 | ok fl =>
 cases fl with
 | ret u=>exact I.after hq
 | next=>exact False.elim hq
 | brk=>exact False.elim hq
 | cont=>exact False.elim hq
theorem xM (F:FnOk X.prog X.w X.K X.mg X.base CX k f fd ps sp) (hr:Room k X.A) (hg:Gl X x) (hm:X.mg x=some (.ref f)) (hk:PySem.W.keepIn X.K (.ref f)=true) (hb:gJ X.K fd ps ds) (hd:ba dvs ds) (hx:lI CX X E)
  (ha:PA X (e::es) t) (hdb:(x==("__debug__" : Str))=false:=by decide) (he:starEach (e::es) X.env=(false,eval e X.env)::starEach es X.env:=by rfl) (hpl:(backTo pos (starEach es X.env)).any (·.1)=false:=by rfl) :
  PE X (.Call (.Name x p) (e::es) [] pos) (i5 sp dvs E t):=by
 intro pins s U H Q I h;refine wpAny_Call_Name_kw (ot I hg hm ?_ hdb);refine PySem.W.callWith_K (h₀:=X.base) I.ok.mod.kin hk (thn (ha pos pins s U H _ I h) λus s1 ⟨vs,H1,I1,r,q⟩=>{I1.kIn,?_}) he hpl;exact zY F hr hb hd hx I1 r q
structure Mk (K:PySem.W.Frag) (C f:Addr):Prop where
 makes:PySem.W.makesIn K C=true
 init:PySem.W.findIn K (.ref C) "__init__" = some (some (.ref f))
 fn:PySem.W.isFn K (.ref f)=true
 kp:PySem.W.keepIn K (.ref C)=true
end
def PK (X:Cx) (kws:List Keyword) (t:TA):Prop :=
 ∀(pos:Pos) (pins:F2) (s:Shared) (U:St) (H:Hp) (Q:List V->Hp->Prop),Inv X pins U H s->t U H Q->wpAny (model X.prog X.w) X.A (evalAll ((backToKw pos (keywordEach kws X.env)).map (·.2))) (AP X pins U Q) X.xe s
section
variable {X:Cx} {CX:CXT} {k:Nat} {f C:Addr} {fd:FuncData} {ps ks:List Str} {sp:Sp} {E:XK} {x m:Str} {p pos apos kpos:Pos} {e o:Expr} {es:List Expr} {kws:List Keyword} {te ta:TE} {t tk:TA} {nm:Option Str}
theorem Ac:PK X [] dW:=λ_ _ _ _ H Q I h=>wpAny_evalAll_nil {[],H,I,.nil,h}
theorem xI (ha:PE X e te) (hr:PK X kws t):PK X (⟨nm,e,kpos⟩::kws) (bj te t):=by
 intro pos pins s U H Q I h;show wpAny _ _ (evalAll ((do let v <-eval e X.env;standAt pos;pure v)::(backToKw pos (keywordEach kws X.env)).map (·.2))) _ _ s;refine wpAny_evalAll_cons (Qb (thn (ha pins s U H _ I h) λu s1 ⟨x,H1,I1,r1,q1⟩=>Qb (wpAny_standAt (Qf ?_))));exact thn (hr pos pins s1 U H1 _ I1 q1) λus s2 ⟨xs,H2,I2,r2,q2⟩=>{x::xs,H2,I2,.cons r1 r2,q2}
structure KBinds (K:PySem.W.Frag) (fd:FuncData) (ps ks:List Str) (g:List Value->List Value->List Value) (gV:List V->List V->List V):Prop where
 to:∀(s:Shared) (us ws:List Value),K.In s.heap->(g us ws).length=ps.length->BindsTo s fd {us,ks.zip ws} (ps.zip (g us ws))
 rel:∀{vs:List V} {us:List Value} {zs:List V} {ws:List Value},ba vs us->ba zs ws->ba (gV vs zs) (g us ws)
variable {g:List Value->List Value->List Value} {gV:List V->List V->List V}
end
structure FnScope (N P:List Str) (sc:Scope):Prop where
 kind:sc.kind=.function
 co:sc.isCoroutine=false
 gen:sc.isGenerator=false
 nd:N.Nodup
 pre:N.take P.length=P
 par:∀x∈P,sc.names.lookup x=some .local\/sc.names.lookup x=some .cell
 nofree:∀y∈sc.names,y.2≠.free
theorem mZ {kindOf:Str->Option NameKind} {x:Str}:∀{binds:List (Str × Value)} {m:F3},(∀v,(x,v)∉binds)->bindL kindOf binds m x=m x
 | [],_,_=>rfl
 | (n,v)::r,m,h=>by
  unfold bindL;rw[mZ λw hw=>h w (Qx _ hw)]
  split
  ·have:x≠n:=by rintro rfl;exact h v Xj
   simp[this]
  rfl
theorem m5 {kindOf:Str->Option NameKind} {x:Str}:∀{binds:List (Str × Value)} {m:F3},(∀v,(x,v)∉binds)->bindC kindOf binds m x=m x
 | [],_,_=>rfl
 | (n,v)::r,m,h=>by
  unfold bindC;rw[m5 λw hw=>h w (Qx _ hw)]
  split
  ·rfl
  have:x≠n:=by rintro rfl;exact h v Xj
  simp[this]
theorem m4 {kindOf:Str->Option NameKind} {x:Str} {v:Value}:∀{P:List Str} {vs:List Value} {i:Nat} {m:F3},P.Nodup->P[i]?=some x->vs[i]?=some v->kindOf x=some .local ->
  bindL kindOf (P.zip vs) m x=some v
 | [],_,_,_,_,h,_,_=>by simp at h
 | _::_,[],_,_,_,_,h,_=>by simp at h
 | p::P,w::vs,0,m,nd,h1,h2,hk=>by
  simp at h1 h2;subst h1;subst h2;show bindL kindOf ((p,w)::P.zip vs) m p=_;unfold bindL;rw[mZ λv hv=>(Q4.mp nd).1 (List.of_mem_zip hv).1,QL hk];simp
 | p::P,w::vs,i+1,m,nd,h1,h2,hk=>by
  show bindL kindOf ((p,w)::P.zip vs) m x=_;unfold bindL;exact m4 (i:=i) (Q4.mp nd).2 (by simpa using h1) (by simpa using h2) hk
theorem m8 {kindOf:Str->Option NameKind} {x:Str} {v:Value}:∀{P:List Str} {vs:List Value} {i:Nat} {m:F3},P.Nodup->P[i]?=some x->vs[i]?=some v->kindOf x≠some .local ->
  bindC kindOf (P.zip vs) m x=some v
 | [],_,_,_,_,h,_,_=>by simp at h
 | _::_,[],_,_,_,_,h,_=>by simp at h
 | p::P,w::vs,0,m,nd,h1,h2,hk=>by
  simp at h1 h2;subst h1;subst h2;show bindC kindOf ((p,w)::P.zip vs) m p=_;unfold bindC;rw[m5 λv hv=>(Q4.mp nd).1 (List.of_mem_zip hv).1,QI hk];simp
 | p::P,w::vs,i+1,m,nd,h1,h2,hk=>by
  show bindC kindOf ((p,w)::P.zip vs) m x=_;unfold bindC;exact m8 (i:=i) (Q4.mp nd).2 (by simpa using h1) (by simpa using h2) hk
def start (N:List Str) (vs:List V):St:=vs.map some++List.replicate (N.length-vs.length) none
noncomputable def cxOf (CX:CXT) (P:Program) (w:World) (K:PySem.W.Frag) (mg:F3) (base:Heap) (N:List Str) (qual:Str) (scope:Scope) (f:Addr) (cd:Value) (A:Around) (outer:List Env) (s:Shared) (H:Hp) (E:XK):Cx where
 prog:=P
 w:=w
 K:=K
 mg:=mg
 base:=base
 A:=A.deeper (envOfC qual scope s.heap.objs.size f cd)
 N:=N
 s₀:=s
 H₀:=H
 env:=envOfC qual scope s.heap.objs.size f cd
 outer:=outer
 stack:=envOfC qual scope s.heap.objs.size f cd::outer
 ex:=[]
 calm:=true
 fn:=λ_=>true
 pn:=[]
 xe:=λe s'=>wpAny (model P w) (A.deeper (envOfC qual scope s.heap.objs.size f cd)) (leaving (envOfC qual scope s.heap.objs.size f cd) e) (λ_ s''=>CX outer H s E e s'') (λe' s''=>CX outer H s E e' s'') s'
variable {sc scope:Scope}
theorem qH {n:Nat} {x:Str} (h:sc.names.lookup x=some .cell):∃c,(cellsFrom n sc.names []).lookup x=some c:=by
 have q:=PySem.W.cellsFrom_some sc.names n [] (.inl h);exact Option.isSome_iff_exists.mp q
theorem uT {CX:CXT} {qual:Str} {outer:List Env} {E:XK} {us:List Value} {vs:List V}
  (S:FnScope N ps scope) (hd:A.handled=none) (e0:Env0 P w K mg base A outer s H) (hl:vs.length=ps.length) (r:ba vs us)
  (x:InCallC s s.heap.objs.size (bindL (envOfC qual scope s.heap.objs.size f cd).kindOf (ps.zip us) λ_=>none) (cellsFrom (s.heap.objs.size+1) scope.names []) (bindC (envOfC qual scope s.heap.objs.size f cd).kindOf (ps.zip us) λ_=>none) s1) :
  Inv (cxOf CX P w K mg base N qual scope f cd A outer s H E) [] (start N vs) H s1:=by
 have hpl:ps.length<=N.length:=by have:=congrArg List.length S.pre;rw[Qv]at this;omega
 obtain⟨h1,tk,rfl,hk⟩:=x.done;have noA:∀b:Addr,b∉(cxOf CX P w K mg base N qual scope f cd A outer s H E).ex:=λb z=>absurd (show b∈([]:F4) from z) (by simp)
 refine{ {e0.mod,S.kind,rfl,rfl,Qh _,λy z c h1 h2=>?_,λy hy=>?_,λy c _ h=>?_,λ_=>hd,Around.frames_deeper e0.frames,.inr ⟨rfl,rfl⟩,λb z=>absurd z (noA b),e0.bs,e0.bsz,λb _ _=>noA b,λb z=>absurd z (noA b),e0.funs,e0.frf},
  rfl,e0.bare,Un.kept hk,{_,x.toInCall.ns,λi y v h1 h2 h3=>?_},λy c h=>{_,x.cell y c h},e0.hok.fresh (Qh _),λy c h=>?_,λp hp=>absurd (show p∈([]:F2) from hp) (by simp),e0.hok.kept hk,?_}
 ·exact name_of_addr x.apart (PySem.mem_of_lookup h1) (PySem.mem_of_lookup h2)
 ·have hy:scope.names.lookup y=some .cell\/scope.names.lookup y=some .free:=hy;rcases hy with hy|hy
  ·exact qH hy
  exact absurd rfl (S.nofree _ (PySem.mem_of_lookup hy))
 ·exact Xy (x.above y c (PySem.mem_of_lookup h))
 ·have hi:i<vs.length:=by
   unfold start at h2;by_cases hi:i<vs.length
   ·exact hi
   rw[QH (by simpa using hi)]at h2;rw[List.getElem?_replicate]at h2
   split at h2 <;> cases h2
  have ha:vs[i]?=some v:=by
   unfold start at h2;rw[QF (by simpa using hi),Qi]at h2
   cases e:vs[i]? with
   | none=>rw[e]at h2;cases h2
   | some a=>rw[e]at h2;cases h2;rfl
  obtain⟨u,hu,rv⟩:=r.get ha
  have hp:ps[i]?=some y:=by
   rw[<-S.pre,List.getElem?_take_of_lt ⋯];exact h1
  have ndP:ps.Nodup:=by rw[<-S.pre];exact S.nd.sublist (List.take_sublist _ _)
  refine{u,rv,?_};rcases S.par y (Qg hp) with k|k
  ·exact .inl {k,m4 ndP hp hu k}
  obtain⟨c,e⟩:=qH (n:=s.heap.objs.size+1) k;refine .inr {.inl k,c,e,?_};have q:=x.cell y c e;rw[m8 ndP hp hu (by show scope.names.lookup y≠_;rw[k];decide)]at q;exact q
 ·exact e0.hok.fresh (Xy (x.above y c (PySem.mem_of_lookup h)))
 unfold start;show _=N.length;rw[Qk,Qa,List.length_replicate];omega
theorem zN {CX:CXT} {k:Nat} {name qual:Str} {params:Arguments} {body:List Stmt} {kV:Value} {an od:Option Addr}
  {osl:Array (Option Value)} {sp:Sp} (lk:K.lookup f=some {oc,od,.func (PySem.W.fnOf name qual params body scope dV kV doc pm an cdv ct),osl}) (hcd:PySem.W.codeIn K cdv qual=true) (S:FnScope N ps scope)
  (len:∀vs H Q E,sp vs H Q E->vs.length=ps.length)
  (hbody:∀(A:Around) (outer:List Env) (s:Shared) (H:Hp) (vs:List V) (Q:VK) (E:XK),Room k (A.deeper (envOfC qual scope s.heap.objs.size f cdv))->sp vs H Q E ->
   ∃t,PSs (cxOf CX P w K mg base N qual scope f cdv A outer s H E) body t/\t { nx:=λ_ H'=>Q .non H',rt:=Q } (start N vs) H) :
  FnOk P w K mg base CX (k+1) f (PySem.W.fnOf name qual params body scope dV kV doc pm an cdv ct) ps sp:=by
 refine{len,λA outer s H args us vs Q E hr e0 hb r hsp=>?_};have hl:=len _ _ _ _ hsp;have KX:K.In s.heap:=e0.mod.kin.keeps λb o e=>(e0.bs b o e).1;have lim:s.heap.NoLimit:=e0.mod.nolimit.keeps λb o e=>(e0.bs b o e).1
 have hkind:∀y∈ps.zip us,scope.names.lookup y.1=some .local\/(scope.names.lookup y.1=some .cell/\((cellsFrom (s.heap.objs.size+1) scope.names []).lookup y.1).isSome=true):=λ⟨n,v⟩ hy=>by
  rcases S.par n (List.of_mem_zip hy).1 with q|q
  ·exact .inl q
  exact .inr {q,PySem.W.cellsFrom_some _ _ _ (.inl q)}
 refine codeAny_call_function hr.depth (KX _ _ lk) rfl S.co S.gen rfl (PySem.W.codeRec_of KX hcd) (hb _ _ _ _ ?_);refine wpAny_newFunctionEnv_cells S.kind hkind λenv he s1 x=>?_;subst he;refine{lim.keeps x.toInCall.keep,codeAny_func ?_};obtain⟨t,ht,hq⟩:=hbody A outer s H vs Q E (hr.deeper _) hsp;have I:Inv (cxOf CX P w K mg base N qual scope f cdv A outer s H E) [] (start N vs) H s1:=uT S hr.hd e0 hl r x;refine Xp (ht [] s1 (start N vs) H _ I hq) (λfl s' hs=>?_) λe s' hs=>hs
 have fin:∀{σ':St} {H':Hp} {v:V} {u:Value},Inv (cxOf CX P w K mg base N qual scope f cdv A outer s H E) [] σ' H' s'->aZ v u->Q v H'->CE outer P w H s Q u s' :=
  λ{σ' H' v u} J rv q=>⟨v,H',J.os,J.bare,J.base,J.hok,rv,q⟩
 cases fl with
 | ret u =>
  obtain⟨v,σ',H',J,rv,q⟩:=hs;exact fin J rv q
 | next =>
  obtain⟨σ',H',J,q⟩:=hs;exact fin (v:=V.non) (u:=Value.none) J rfl q
 | brk =>
  obtain⟨_,_,_,q⟩:=hs;exact False.elim q
 | cont =>
 obtain⟨_,_,_,q⟩:=hs;exact False.elim q
section
variable {X:Cx} {x:Str} {p pos:Pos} {e:Expr} {es:List Expr} {t:TA} {id T:String} {r:List V->Hp->VK->Prop}
def tCB (r:List V->Hp->VK->Prop) (t:TA):TE:=λU H Q=>t U H λvs H1=>r vs H1 Q
theorem aE (hc:dP X (.builtin id) r) (hg:Gl X x) (hm:X.mg x=none) (hv:bootBuiltins x=some (.builtin id)) (ha:PA X (e::es) t) (hn:x ≠ "__name__" := by decide) (hdb:(x==("__debug__" : Str))=false:=by decide)
  (he:starEach (e::es) X.env=(false,eval e X.env)::starEach es X.env:=by rfl) (hpl:(backTo pos (starEach es X.env)).any (·.1)=false:=by rfl):PE X (.Call (.Name x p) (e::es) [] pos) (tCB r t):=by
 intro pins s U H Q I h;refine wpAny_Call_Name_kw (dR I hg hm hv ?_ hn hdb);exact PyProof.Rows.callWith_builtin1 (thn (ha pos pins s U H _ I h) λus s1 ⟨vs,H1,I1,r1,q1⟩=>hc pins s1 U H1 vs us Q I1 r1 q1) he hpl
theorem gr (hc:dP X (.type T) r) (hg:Gl X x) (hm:X.mg x=none) (hv:bootBuiltins x=some (.type T)) (ha:PA X (e::es) t) (hn:x ≠ "__name__" := by decide) (hdb:(x==("__debug__" : Str))=false:=by decide)
  (he:starEach (e::es) X.env=(false,eval e X.env)::starEach es X.env:=by rfl) (hpl:(backTo pos (starEach es X.env)).any (·.1)=false:=by rfl):PE X (.Call (.Name x p) (e::es) [] pos) (tCB r t):=by
 intro pins s U H Q I h;refine wpAny_Call_Name_kw (dR I hg hm hv ?_ hn hdb);exact Xe (thn (ha pos pins s U H _ I h) λus s1 ⟨vs,H1,I1,r1,q1⟩=>hc pins s1 U H1 vs us Q I1 r1 q1) he hpl
end
end L2
namespace HT
open PySem PyProof.Rows
section
open PySem.SeqAt
open PySem.AutoSeq1 (wpAny_loadPart')
open PySem.MeetsSeq PySem.MeetsSeq2 PySem.MeetsSeq3
end
section
variable {prog:Program} {w:World} {A:Around} {E:F1} {s:Shared}
def sIx (n d:Nat):Option Int->Nat
 | none=>d
 | some v=>if v<0 then (v+(n:Int)).toNat else min v.toNat n
theorem jZ (n d:Nat):sIx n d none=d:=rfl
theorem nO (n d k:Nat):sIx n d (some (k:Int))=min k n:=by
 show (if (k:Int)<0 then ((k:Int)+(n:Int)).toNat else min (k:Int).toNat n)=min k n;rw[QI ⋯,Xh]
end
end HT
namespace L2
open PySem PySem.Spec PyProof.Rows
abbrev TO:=St->Hp->(Option Int->Hp->Prop)->Prop
def PO (X:Cx) (e:Option Expr) (t:TO):Prop :=
 ∀(pins:F2) (s:Shared) (U:St) (H:Hp) (Q:Option Int->Hp->Prop),Inv X pins U H s->t U H Q ->
  wpAny (model X.prog X.w) X.A (evalPart e X.env) (λu s'=>∃o H',Inv X pins U H' s'/\IsPart u o/\Q o H') X.xe s
def nk:TO:=λ_ H Q=>Q none H
def sE (t:TE):TO:=λU H Q=>t U H λx H1=>∃i,x=.int i/\Q (some i) H1
section
variable {X:Cx} {e:Expr} {te:TE} {lo hi:Option Expr} {tl th:TO} {pos p2:Pos}
theorem bt:PO X none nk:=by
 intro pins s U H Q I h;rw[evalPart_none];exact Qf {none,H,I,.none,h}
theorem br (h:PE X e te):PO X (some e) (sE te):=by
 intro pins s U H Q I hw;rw[evalPart_some];refine thn (h pins s U H _ I hw) λu s1 ⟨x,H1,I1,r1,q1⟩=>?_;obtain⟨i,rfl,q⟩:=q1;obtain⟨t,rfl⟩:=r1;exact{some i,H1,I1,.int i t,q}
def SlR (X:Cx) (r:V->Option Int->Option Int->Hp->VK->Prop):Prop :=
 ∀(pins:F2) (s:Shared) (U:St) (H:Hp) (x:V) (v vl vu:Value) (lo hi:Option Int) (sl:Addr) (Q:VK),Inv X pins U H s->aZ x v->s.heap.IsSliceOf sl vl vu .none->IsPart vl lo->IsPart vu hi->r x lo hi H Q ->
  ∃T id,typeLookup (.type T) "__getitem__" = pure (some (.builtin id))/\s.TypeIs v T/\wpAny (model X.prog X.w) X.A (getItem v (.ref sl)) (EP X pins U Q) X.xe s
def tSl (r:V->Option Int->Option Int->Hp->VK->Prop) (te:TE) (tl th:TO):TE:=λU H Q=>te U H λx H1=>tl U H1 λl H2=>th U H2 λu H3=>r x l u H3 Q
theorem a8 {r:V->Option Int->Option Int->Hp->VK->Prop} (hr:SlR X r) (he:PE X e te) (hl:PO X lo tl) (hu:PO X hi th):PE X (.Subscript e (.Slice lo hi none p2) pos) (tSl r te tl th):=by
 intro pins s U H Q I h;refine Subscript_ (thn (he pins s U H _ I h) λv s1 ⟨x,H1,I1,r1,q1⟩=>?_);refine wpAny_Slice (thn (hl pins s1 U H1 _ I1 q1) λvl s2 ⟨l,H2,I2,pl,q2⟩=>thn (hu pins s2 U H2 _ I2 q2) λvu s3 ⟨u,H3,I3,pu,q3⟩=>?_);rw[evalPart_none];refine Qf ?_;have I4:Inv X pins U H3 { s3 with heap:=s3.heap.push { cls:=.type "slice", data:=.fields #[vl,vu,.none] } }:=I3.kept (t':=s3.toks) λb ob q=>Qd _ q;obtain⟨T,id,hT,ht,hg⟩:=hr pins { s3 with heap:=s3.heap.push { cls:=.type "slice", data:=.fields #[vl,vu,.none] } } U H3 x v vl vu l u s3.heap.objs.size Q I4 r1 (Heap.IsSliceOf.new ..) pl pu q3;show wpAny (model X.prog X.w) X.A (subscriptTail e (.Slice lo hi none p2) v (.ref s3.heap.objs.size)) (EP X pins U Q) X.xe { s3 with heap:=s3.heap.push { cls:=.type "slice", data:=.fields #[vl,vu,.none] } };exact tail_any (ops:=[.ref s3.heap.objs.size,v]) ht hT hg (by with_unfolding_all rfl)
def fJ (xs:List V) (lo hi:Option Int):List V:=(xs.drop (HT.sIx xs.length 0 lo)).take (HT.sIx xs.length xs.length hi-HT.sIx xs.length 0 lo)
theorem je (xs:List V) (lo hi:Option Int):(fJ xs lo hi).length<=xs.length:=by
 unfold fJ;rw[Qv,Q9];omega
end
def ixN (n:Nat) (i:Int):Option Nat:=if 0<=i then (if i<n then some i.toNat else none) else if -(n:Int)<=i then some (i+n).toNat else none
def atI {α:Type} (xs:List α) (i:Int):Option α:=(ixN xs.length i).bind λj=>xs[j]?
theorem tE {n:Nat} {i:Int} {j:Nat} (h:ixN n i=some j):seqIndex? i n=some j/\j<n/\-(n:Int)<=i/\i<n:=by
 unfold ixN at h;by_cases h0:0<=i
 ·rw[QL h0]at h;by_cases h1:i<n
  ·rw[QL h1]at h;have e:i.toNat=j:=Q0 h;exact{by rw[seqIndex_of h0 h1,e],⋯,⋯,h1}
  rw[QI h1]at h;cases h
 rw[QI h0]at h;by_cases h1:-(n:Int)<=i
 ·rw[QL h1]at h;have e:(i+n).toNat=j:=Q0 h;exact{by rw[seqIndex_neg ⋯ h1,e],⋯,h1,⋯}
 rw[QI h1]at h;cases h
theorem oN {α:Type} {xs:List α} {i:Int} {v:α} (h:atI xs i=some v):∃j,seqIndex? i xs.length=some j/\xs[j]?=some v/\j<xs.length/\-(xs.length:Int)<=i/\i<xs.length:=by
 unfold atI at h
 cases e:ixN xs.length i with
 | none=>rw[e]at h;cases h
 | some j =>
 rw[e]at h;obtain⟨h1,h2,h3,h4⟩:=tE e;exact⟨j,h1,h,h2,h3,h4⟩
theorem bQ {α:Type} {xs:List α} {j:Nat} {v:α} (h:xs[j]?=some v):atI xs (j:Int)=some v:=by
 have hj:j<xs.length:=(Qe.mp h).1
 have e:ixN xs.length (j:Int)=some j:=by
  unfold ixN;rw[QL ⋯,QL ⋯];simp
 unfold atI;rw[e];exact h
def yD (b:Expr):Prop:=∀o i,subscripted b false o i=operate [o,i] (getItem o i)
def IxR (X:Cx) (r:R2):Prop :=
 ∀(value slice:Expr) (pins:F2) (s:Shared) (U:St) (H:Hp) (x y:V) (v u:Value) (Q:VK),Inv X pins U H s->aZ x v->aZ y u->r x y H Q ->
  subscripted slice false v u=operate [v,u] (getItem v u)->wpAny (model X.prog X.w) X.A (subscriptTail value slice v u) (EP X pins U Q) X.xe s
def MtR (X:Cx) (id:String) (r:V->List V->Hp->VK->Prop):Prop :=
 ∀(pins:F2) (s:Shared) (U:St) (H:Hp) (x:V) (xs:List V) (v:Value) (us:List Value) (Q:VK),Inv X pins U H s->aZ x v->ba xs us->r x xs H Q ->
  wpAny (model X.prog X.w) X.A (call (.builtin id) (v::us)) (EP X pins U Q) X.xe s
section
variable {X:Cx} {a b:Expr} {ta tb:TE} {pos:Pos}
theorem aD {r:R2} (hr:IxR X r) (ha:PE X a ta) (hb:PE X b tb) (hs:yD b:=by exact λ_ _=>rfl):PE X (.Subscript a b pos) (tOp r ta tb):=by
 intro pins s U H Q I h;exact Subscript_ (A1 ha hb I h λv u s2 x y H2 I2 rx ry q=>hr a b pins s2 U H2 x y v u Q I2 rx ry q (hs _ _))
def rb (K:PySem.W.Frag):R2:=λx y H Q=>∃p xs i v,x=.ref p/\y=.int i/\SqL K H p xs/\atI xs i=some v/\Q v H
def pS (K:PySem.W.Frag):R2:=λx y H Q=>∃p xs i v,x=.ref p/\y=.int i/\SqT K H p xs/\atI xs i=some v/\Q v H
def Bo:R2:=λx y H Q=>∃z i c,x=.str z/\y=.int i/\z.length<=sizeLine/\atI z.cps.toList i=some c/\Q (.str {#[c]}) H
theorem aH:IxR X (rb X.K):=by
 intro value slice pins s U H x y v u Q I rx ry h hs;obtain⟨p,xs,i,z,rfl,rfl,hq,he,q⟩:=h;cases rx;obtain⟨t,rfl⟩:=ry;obtain⟨its,r,pl,hz⟩:=I.list hq;obtain⟨j,h1,h2,h3,h4,h5⟩:=oN he;obtain⟨w,ew,rw'⟩:=r.get h2;have hl:=r.length;have hn:=iQ;have fin:EP X pins U Q w s:=⟨z,H,I,rw',q⟩;by_cases h0:0<=i
 ·have hj:i.toNat=j:=by
   rw[seqIndex_of h0 h5]at h1;exact Q0 h1
  exact item_listR pl.isList h0 ⋯ (by rw[hj];simpa using ew) fin hs
 have hj:(i+(its.toArray.size:Int)).toNat=j:=by
  rw[seqIndex_neg ⋯ h4]at h1;rw[Qm,<-hl];exact Q0 h1
 exact subscriptTail_builtinR (x:=w) pl.isList.typeIs slot_list_getitem.lookup
  (wpAny_getItem_list_neg (Q:=λr s'=>r=w/\EP X pins U Q r s') pl.isList ⋯ (by rw[Qm] <;> omega) ⋯ (by rw[hj];simpa using ew) ⟨rfl,fin⟩) hs
theorem bg:IxR X (pS X.K):=by
 intro value slice pins s U H x y v u Q I rx ry h hs;obtain⟨p,xs,i,z,rfl,rfl,hq,he,q⟩:=h;cases rx;obtain⟨t,rfl⟩:=ry;obtain⟨its,r,pl,hz⟩:=I.tuple hq;obtain⟨j,h1,h2,h3,h4,h5⟩:=oN he;obtain⟨w,ew,rw'⟩:=r.get h2;have hl:=r.length;have hn:=iQ;have fin:EP X pins U Q w s:=⟨z,H,I,rw',q⟩
 exact subscriptTail_builtinR (x:=w) pl.typeIs slot_tuple_getitem.lookup
  (getItem_tuple (j:=j) (Q:=λr s'=>r=w/\EP X pins U Q r s') pl ⋯ ⋯ (by rw[Qm,<-hl];exact h1) (by simpa using ew) ⟨rfl,fin⟩) hs
theorem eV:IxR X Bo:=by
 intro value slice pins s U H x y v u Q I rx ry h hs;obtain⟨z,i,c,rfl,rfl,hz,he,q⟩:=h;obtain⟨t,rfl⟩:=rx;obtain⟨t',rfl⟩:=ry;obtain⟨j,h1,h2,h3,h4,h5⟩:=oN he;have hl:z.cps.toList.length=z.length:=by simp[Str.length]
 rw[hl]at h1 h4 h5;have hn:=iQ
 exact tail_any (typeIs_str s z t) slot_str_getitem.lookup (getItem_str (c:=c) (by
  have e1:decide (i < -(2 ^ 63:Int))=false:=QY ⋯;have e2:decide (i>=2 ^ 63)=false:=QY ⋯
  rw[e1,e2,Bool.or_false]) (by rw[h1];simpa using h2) {.str {#[c]},H,I.tok _,⟨_,rfl⟩,q}) hs
theorem rK (its:List Value) (n j:Nat) (u:Value):Obj.mapSeq (·.setIfInBounds j u) { cls:=.type "list", data:=.seq its.toArray n }={ cls:=.type "list", data:=.seq (its.set j u).toArray n }:=by
 simp[Obj.mapSeq]
variable {s:Shared} {pins:F2}
theorem Inv.lst {U:St} {H:Hp} {p:Addr} {xs:List V} (I:Inv X pins U H s) (h:H p=some (.lst xs)) :
  ∃(its:List Value) (n:Nat),ba xs its/\s.heap.get? p=some { cls:=.type "list", data:=.seq its.toArray n }/\xs.length<=sizeLine:=by
 obtain⟨z,its,n,r,e⟩:=I.hok p _ h;exact⟨its,n,r,e,z⟩
theorem Inv.lstUpd {U:St} {H:Hp} {p:Addr} {xs ys:List V} {its its':List Value} {n n':Nat} {f:Obj->Obj} (I:Inv X pins U H s) (h:H p=some (.lst xs))
  (ho:s.heap.get? p=some { cls:=.type "list", data:=.seq its.toArray n }) (hf:f { cls:=.type "list", data:=.seq its.toArray n }={ cls:=.type "list", data:=.seq its'.toArray n' }) (r:ba ys its') (hz:ys.length<=sizeLine) (t:Nat) :
  Inv X pins U (upd H p (.lst ys)) { s with heap:=s.heap.update p f,toks:=t }:=by
 have e:(s.heap.update p f).get? p=some { cls:=.type "list", data:=.seq its'.toArray n' }:=by
  rw[XM f ho (by rw[hf] <;> rfl),hf]
 refine I.write (x:=p) (e:=p) (by rw[h];trivial) (.inl rfl) (λb u hb q=>(Q3 _ _ (XH hb)).trans q) ⟨_,e⟩ ?_;exact⟨hz,its',n',r,e⟩
def yV:V->V->V->Hp->(Hp->Prop)->Prop:=λo i v H Q=>∃p xs k j,o=.ref p/\i=.int k/\H p=some (.lst xs)/\ixN xs.length k=some j/\Q (upd H p (.lst (xs.set j v)))
theorem pE:Ed X yV:=by
 intro pins s U H o i v ov iv u Q I ro ri rv h;obtain⟨p,xs,k,j,rfl,rfl,hp,hj,q⟩:=h;cases ro;obtain⟨t,rfl⟩:=ri;obtain⟨its,n,r,ho,hz⟩:=I.lst hp;obtain⟨h1,h2,h3,h4⟩:=tE hj;have hl:=r.length;have hn:=iQ
 have I':Inv X pins U (upd H p (.lst (xs.set j v))) { s with heap:=s.heap.update p (Obj.mapSeq (·.setIfInBounds j u)) } :=
  I.lstUpd hp ho (rK its n j u) (r.set rv j) (by rw[List.length_set];exact hz) s.toks
 by_cases h0:0<=k
 ·have hk:k.toNat=j:=by
   rw[seqIndex_of h0 h4]at h1;exact Q0 h1
  exact PySem.W.ki_setAt ho h0 ⋯ (by rw[Qm,<-hl];exact h4) (by rw[hk];exact⟨_,I',q⟩)
 have hk:(k+(its.toArray.size:Int)).toNat=j:=by
  rw[seqIndex_neg ⋯ h3]at h1;rw[Qm,<-hl];exact Q0 h1
 exact PySem.W.ki_setBack ho ⋯ (by rw[Qm,<-hl];exact h3) ⋯ (by rw[hk];exact⟨_,I',q⟩)
theorem yQ (i:Int) (n:Nat):max 0 (min (if i<0 then i+(n:Int) else i) (n:Int))=(((if i<0 then (i+(n:Int)).toNat else min i.toNat n):Nat):Int):=by
 by_cases h:i<0
 ·rw[QL h,QL h,Int.min_eq_left ⋯];omega
 obtain⟨k,rfl⟩:=Int.eq_ofNat_of_zero_le (Int.not_lt.mp h);rw[QI h,QI h,Xh];omega
theorem nB (lo hi:Option Int) (n:Nat):(sliceBounds lo hi none n).1=((HT.sIx n 0 lo:Nat):Int)/\(sliceBounds lo hi none n).2.1=((HT.sIx n n hi:Nat):Int)/\(sliceBounds lo hi none n).2.2=1:=by
 refine{?_,?_,rfl}
 ·cases lo with
  | none=>simp[sliceBounds,HT.sIx]
  | some i =>
   simp only[sliceBounds,HT.sIx,Option.getD_none,show (1:Int)>0 by decide,if_true];exact yQ i n
 cases hi with
 | none=>simp[sliceBounds,HT.sIx]
 | some i =>
 simp only[sliceBounds,HT.sIx,Option.getD_none,show (1:Int)>0 by decide,if_true];exact yQ i n
theorem lK (its:List Value) (lo hi:Option Int):slicePick its.toArray lo hi none=((its.drop (HT.sIx its.length 0 lo)).take (HT.sIx its.length its.length hi-HT.sIx its.length 0 lo)).toArray:=by
 obtain⟨h1,h2,h3⟩:=nB lo hi its.toArray.size;unfold slicePick;rw[h1,h2,h3];simp only[sliceRange_one,pick_run,Qm] <;> rfl
def Aa (K:PySem.W.Frag):V->Option Int->Option Int->Hp->VK->Prop:=λx lo hi H Q=>∃a xs,x=.ref a/\SqL K H a xs/\∀p,H p=none->Q (.ref p) (upd H p (.lst (fJ xs lo hi)))
theorem cq:SlR X (Aa X.K):=by
 intro pins s U H x v vl vu lo hi sl Q I rx hs pl pu h;obtain⟨a,xs,rfl,hx,q⟩:=h;cases rx;obtain⟨its,r,ht,hz⟩:=I.list hx;have hlen:=r.length;refine{"list", _,slot_list_getitem.lookup,ht.isList.typeIs,?_};refine wpAny_getItem_list_slice ht.isList hs pl pu .none (by simp) ?_ (by rw[Qm] <;> omega);rw[lK,<-hlen];refine{.ref s.heap.objs.size,_,I.laid (t':=s.toks) (o:=.lst (fJ xs lo hi)) (λb ob q=>Qd _ q) (Qh _) ?_,rfl,q _ (I.hok.fresh (Qh _))};exact{QX (je xs lo hi) hz,_,0,(r.drop (HT.sIx xs.length 0 lo)).take (HT.sIx xs.length xs.length hi-HT.sIx xs.length 0 lo),Qq _ rfl}
def fh:V->Bool
 | .non=>true
 | .bl _=>true
 | .int _=>true
 | .str _=>true
 | _=>false
def eqV:V->V->Bool
 | .non,.non=>true
 | .bl a,.bl b=>a==b
 | .bl a,.int b=>(if a then 1 else 0)==b
 | .int a,.bl b=>a==(if b then 1 else 0)
 | .int a,.int b=>a==b
 | .str a,.str b=>a==b
 | _,_=>false
variable {u v:Value}
theorem wU {A:Around} {y x:V} (ry:aZ y u) (rx:aZ x v) (fy:fh y=true) (fx:fh x=true):SeqAt.EqAt A s u v (eqV y x):=by
 cases y with
 | non =>
  cases ry
  cases x with
  | non=>cases rx;exact SeqAt.EqAt.same _
  | bl b=>cases rx;exact SeqAt.EqAt.none_bool b
  | int b=>obtain⟨t,rfl⟩:=rx;exact SeqAt.EqAt.none_int b t
  | str b=>obtain⟨t,rfl⟩:=rx;exact SeqAt.EqAt.none_str b t
  | _=>exact absurd (show false=true from fx) Qn
 | bl a =>
  cases ry
  cases x with
  | non=>cases rx;exact SeqAt.EqAt.bool_none a
  | bl b=>cases rx;exact SeqAt.EqAt.bool_bool a b
  | int b=>obtain⟨t,rfl⟩:=rx;exact SeqAt.EqAt.bool_int a b t
  | str b=>obtain⟨t,rfl⟩:=rx;exact SeqAt.EqAt.bool_str a b t
  | _=>exact absurd (show false=true from fx) Qn
 | int a =>
  obtain⟨t',rfl⟩:=ry
  cases x with
  | non=>cases rx;exact SeqAt.EqAt.int_none a t'
  | bl b=>cases rx;exact SeqAt.EqAt.int_bool a t' b
  | int b=>obtain⟨t,rfl⟩:=rx;exact SeqAt.EqAt.int_int a t' b t
  | str b=>obtain⟨t,rfl⟩:=rx;exact SeqAt.EqAt.int_str a t' b t
  | _=>exact absurd (show false=true from fx) Qn
 | str a =>
  obtain⟨t',rfl⟩:=ry
  cases x with
  | non=>cases rx;exact SeqAt.EqAt.str_none a t'
  | bl b=>cases rx;exact SeqAt.EqAt.str_bool a t' b
  | int b=>obtain⟨t,rfl⟩:=rx;exact SeqAt.EqAt.str_int a t' b t
  | str b=>obtain⟨t,rfl⟩:=rx;exact SeqAt.EqAt.str_str a t' b t
  | _=>exact absurd (show false=true from fx) Qn
 | _=>exact absurd (show false=true from fy) Qn
def eqU (x:V) (u:Value):Bool:=match u with
 | .none=>eqV .non x
 | .bool b=>eqV (.bl b) x
 | .int i _=>eqV (.int i) x
 | .str z _=>eqV (.str z) x
 | _=>false
theorem wT {x y:V} (r:aZ y u) (f:fh y=true):eqU x u=eqV y x:=by
 cases y with
 | non=>cases r;rfl
 | bl b=>cases r;rfl
 | int i=>obtain⟨t,rfl⟩:=r;rfl
 | str z=>obtain⟨t,rfl⟩:=r;rfl
 | _=>exact absurd (show false=true from f) Qn
theorem oR {x:V}:∀{xs:List V} {us:List Value},ba xs us->xs.all fh=true->us.any (eqU x)=xs.any λy=>eqV y x
 | _,_,.nil,_=>rfl
 | y::xs,u::us,.cons r t,f=>by
  rw[List.all_cons,Xm]at f;rw[List.any_cons,List.any_cons,wT r f.1,oR t f.2]
theorem kJ {A:Around} {s:Shared} {x:V} {v:Value} (rx:aZ x v) (fx:fh x=true):∀{xs:List V} {us:List Value},ba xs us->xs.all fh=true->∀u∈us,SeqAt.EqAt A s u v (eqU x u)
 | _,_,.nil,_=>λu hu=>by cases hu
 | y::xs,u::us,.cons r t,f=>λu' hu=>by
  rw[List.all_cons,Xm]at f;rcases QO.mp hu with rfl|hu
  ·rw[wT r f.1];exact wU r rx f.1 fx
  exact kJ rx fx t f.2 u' hu
def inV (x:V) (xs:List V):Bool:=xs.any λy=>eqV y x
def rIn (K:PySem.W.Frag) (neg:Bool):R2:=λx y H Q=>∃p xs,y=.ref p/\(SqL K H p xs\/SqT K H p xs)/\fh x=true/\xs.all fh=true/\Q (.bl (if neg then !inV x xs else inV x xs)) H
theorem ur:OpR X (compareOp .In) (rIn X.K false):=by
 intro pins s U H x y v u Q I rx ry h;obtain⟨p,xs,rfl,hq,fx,fs,q⟩:=h;cases ry;rcases hq with hq|hq
 ·obtain⟨its,r,pl,hz⟩:=I.list hq;refine SeqAt.in_listAt (eqU x) pl.isList (λw hw=>kJ rx fx r fs w (by simpa using hw)) {.bl _,H,I,rfl,?_};rw[show its.toArray.any (eqU x)=its.any (eqU x) by simp,oR r fs];exact q
 obtain⟨its,r,pl,hz⟩:=I.tuple hq;refine SeqAt.in_tupleAt (eqU x) pl (λw hw=>kJ rx fx r fs w (by simpa using hw)) {.bl _,H,I,rfl,?_};rw[show its.toArray.any (eqU x)=its.any (eqU x) by simp,oR r fs];exact q
theorem aI:dP X (.builtin "len") (λxs H Q=>∃p ys,xs=[.ref p]/\(SqL X.K H p ys\/SqT X.K H p ys)/\Q (.int ys.length) H):=by
 intro pins s U H xs us Q I r h;obtain⟨p,ys,rfl,hq,q⟩:=h;obtain⟨u,rfl,rx⟩:=d_ r;cases rx;have hn:=iQ;rcases hq with hq|hq
 ·obtain⟨its,r',pl,hz⟩:=I.list hq;have hlen:=r'.length;exact Calls.call_len_list pl.isList (by simp only[Qm] <;> omega) {.int ys.length,H,I.tok _,{s.toks+1,by rw[Qm,hlen]},q}
 obtain⟨its,r',pl,hz⟩:=I.tuple hq;have hlen:=r'.length;exact len_tuple pl (by simp only[Qm] <;> omega) {.int ys.length,H,I.tok _,{s.toks+1,by rw[Qm,hlen]},q}
theorem fD:dP X (.builtin "len") (λxs H Q=>∃z,xs=[.str z]/\z.length<=sizeLine/\Q (.int z.length) H):=by
 intro pins s U H xs us Q I r h;obtain⟨z,rfl,hz,q⟩:=h;obtain⟨u,rfl,t,rfl⟩:=d_ r;have hn:=iQ;exact len_str ⋯ {.int z.length,H,I.tok _,⟨_,rfl⟩,q}
theorem iB:dP X (.type "list") (λxs H Q=>∃p ys,xs=[.ref p]/\(SqL X.K H p ys\/SqT X.K H p ys)/\∀l,H l=none->Q (.ref l) (upd H l (.lst ys))):=by
 intro pins s U H xs us Q I r h;obtain⟨p,ys,rfl,hq,q⟩:=h;obtain⟨u,rfl,rx⟩:=d_ r;cases rx
 have fin:∀(its:List Value),ba ys its->ys.length<=sizeLine->∀(h':Heap) (c':Nat),(∀b o',s.heap.get? b=some o'->h'.get? b=some o') ->
   h'.get? s.heap.objs.size=some { cls:=.type "list", dict:=none,data:=.seq its.toArray c',slots:=#[] }->EP X pins U Q (.ref s.heap.objs.size) { s with heap:=h' }:=λits r' hz h' c' kp e =>
  {.ref s.heap.objs.size,_,I.laid (t':=s.toks) kp (Qh _) (show bD X.prog X.w _ h' _ (.lst ys) from⟨hz,its,c',r',e⟩),rfl,q _ (I.hok.fresh (Qh _))}
 rcases hq with hq|hq
 ·obtain⟨its,r',pl,hz⟩:=I.list hq;have hlen:=r'.length;obtain⟨o,ho,hc,n,hd⟩:=pl.isList;exact call_list_seq p (.inl rfl) ho hc hd (λh' c' kp e=>fin its r' hz h' c' kp e) (by simp only[Qm] <;> omega)
 obtain⟨its,r',pl,hz⟩:=I.tuple hq;have hlen:=r'.length;obtain⟨o,ho,hc,n,hd⟩:=pl;exact call_list_seq p (.inr rfl) ho hc hd (λh' c' kp e=>fin its r' hz h' c' kp e) (by simp only[Qm] <;> omega)
def tyV (K:PySem.W.Frag) (T:String) (x:V) (H:Hp):Prop:=match x with
 | .str _=>T = "str"
 | .int _=>T = "int"
 | .ref p=>(T = "list" /\ ∃xs,SqL K H p xs)\/(T = "tuple" /\ ∃o,K.lookup p=some o/\o.cls=.type "tuple" /\ o.dict=none) \/
   (T = "dict" /\ ((∃kvs,H p=some (.dK kvs))\/∃kvs,H p=some (.dT kvs)))\/(T = "set" /\ ∃S n,H p=some (.set S n))
 | _=>False
theorem vg {U:St} {H:Hp} {T:String} {x:V} (I:Inv X pins U H s) (r:aZ x v) (ty:tyV X.K T x H) :
  s.TypeIs v T/\∀a,v=.ref a->∃ob,s.heap.get? a=some ob/\ob.dict=none:=by
 cases x with
 | str z =>
  obtain⟨t,rfl⟩:=r;cases (show T = "str" from ty);exact{typeIs_str s z t,λ_ e=>nomatch e}
 | int i =>
  obtain⟨t,rfl⟩:=r;cases (show T = "int" from ty);exact{typeIs_int s i t,λ_ e=>nomatch e}
 | ref p =>
  cases r;rcases ty with⟨rfl,xs,hq⟩|⟨rfl,o,hk,hc,hd⟩|⟨rfl,hk⟩|⟨rfl,S,n,hk⟩
  ·obtain⟨its,_,pl,_⟩:=I.list hq;refine{pl.isList.typeIs,λa e=>?_};cases e;obtain⟨o,n,e,c,hd,_⟩:=pl;exact⟨o,e,hd⟩
  ·refine{ {o,I.kIn p o hk,hc},λa e=>?_};cases e;exact{o,I.kIn _ o hk,hd}
  ·have z:∃o,s.heap.get? p=some o/\o.ExactDict:=by
    rcases hk with⟨kvs,hk⟩|⟨kvs,hk⟩
    ·obtain⟨_,_,_,_,o,_,_,e,ex,_⟩:=I.hok p _ hk;exact⟨o,e,ex⟩
    obtain⟨_,_,_,_,o,_,_,e,ex,_⟩:=I.hok p _ hk;exact⟨o,e,ex⟩
   obtain⟨o,e,ex⟩:=z;refine{⟨o,e,ex.1⟩,λa e2=>?_};cases e2;exact⟨o,e,ex.2.1⟩
  obtain⟨o,_,_,_,e,ex,_⟩:=I.hok p _ hk;refine{⟨o,e,ex.1⟩,λa e2=>?_};cases e2;exact⟨o,e,ex.2.1⟩
 | _=>exact False.elim ty
def Bi (K:PySem.W.Frag) (T:String) (r:V->List V->Hp->VK->Prop) (to:TE):TE:=λU H Q=>to U H λx H1=>tyV K T x H1/\r x [] H1 Q
def tBM (K:PySem.W.Frag) (T:String) (r:V->List V->Hp->VK->Prop) (to:TE) (t:TA):TE:=λU H Q=>to U H λx H1=>tyV K T x H1/\t U H1 λxs H2=>r x xs H2 Q
variable {o e:Expr} {es:List Expr} {to:TE} {t:TA} {name:Str} {apos cpos:Pos} {T id:String} {r:V->List V->Hp->VK->Prop}
theorem Ak (pa:PlainAttrs T) (slot:Slot T name id) (hty:typeOf (.builtin id)=pure (.type "method_descriptor")) (hm:MtR X id r) (ho:PE X o to)
  (hbase:attributeBase o name X.env (eval o X.env)=eval o X.env:=by rfl) (hline:(apos.endLine==cpos.line)=true:=by rfl):PE X (.Call (.Attribute o name apos) [] [] cpos) (Bi X.K T r to):=by
 intro pins s U H Q I h;refine wpAny_Call_method0_late hbase hline (thn (ho pins s U H _ I h) λv s1 ⟨x,H1,I1,r1,ty,q1⟩=>?_);obtain⟨h1,h2⟩:=vg I1 r1 ty;exact{T,id,pa,slot,hty,h1,h2,Calls.callWith_builtin rfl (PySem.evalArgs_none (hm pins s1 U H1 x [] v [] Q I1 r1 .nil q1))}
theorem cL (pa:PlainAttrs T) (slot:Slot T name id) (hty:typeOf (.builtin id)=pure (.type "method_descriptor")) (hm:MtR X id r) (ho:PE X o to) (ha:PA X (e::es) t)
  (hbase:attributeBase o name X.env (eval o X.env)=eval o X.env:=by rfl)
  (hfew:((backTo cpos (starEach (e::es) X.env)).all (fun x=>!x.1)&&(backToKw cpos (keywordEach [] X.env)).all (fun x=>x.1.isSome)
   && decide ((e::es).length+([]:List Keyword).length+(if ([]:List Keyword).isEmpty then 0 else 1)<30))=true:=by rfl)
  (hline:(apos.endLine==cpos.line)=true:=by rfl) (hs:starEach (e::es) X.env=(false,eval e X.env)::starEach es X.env:=by rfl) (hplain:(backTo cpos (starEach es X.env)).any (·.1)=false:=by rfl) :
  PE X (.Call (.Attribute o name apos) (e::es) [] cpos) (tBM X.K T r to t):=by
 intro pins s U H Q I h;refine wpAny_Call_method_late hbase hfew hline rfl (thn (ho pins s U H _ I h) λv s1 ⟨x,H1,I1,r1,ty,q1⟩=>?_);obtain⟨h1,h2⟩:=vg I1 r1 ty;refine{T,id,pa,slot,hty,h1,h2,?_};have hA:=ha cpos pins s1 U H1 _ I1 q1;rw[hs]at hA ⊢;refine Calls.callWith_builtin (by show (false || (backTo cpos (starEach es X.env)).any (·.1))=false;rw[hplain] <;> rfl) (Calls.evalArgs_plain ?_);exact thn hA λus s2 ⟨vs,H2,I2,r2,q2⟩=>hm pins s2 U H2 x vs v us Q I2 r1 r2 q2
end
def MtM (X:Cx) (id:String) (r:V->List V->Hp->VK->Prop):Prop :=
 ∀(pins:F2) (s:Shared) (U:St) (H:Hp) (x:V) (xs:List V) (v:Value) (us:List Value) (Q:VK),Inv X pins U H s->aZ x v->ba xs us->r x xs H Q ->
  wpAny (model X.prog X.w) X.A (call (.builtin id) (v::us)) (EP X pins U Q) X.xe s
theorem ba.one:∀{x:V} {us:List Value},ba [x] us->∃u,us=[u]/\aZ x u
 | _,_,.cons r .nil=>⟨_,rfl,r⟩
theorem ba.zero:∀{us:List Value},ba [] us->us=[]
 | _,.nil=>rfl
theorem ba.dropLast {xs:List V} {us:List Value} (h:ba xs us):ba xs.dropLast us.dropLast:=by
 induction h with
 | nil=>exact .nil
 | cons r t ih =>
 cases t with
 | nil=>exact .nil
 | cons q t'=>exact .cons r ih
theorem ba.reverse {xs:List V} {us:List Value} (h:ba xs us):ba xs.reverse us.reverse:=by
 induction h with
 | nil=>exact .nil
 | cons r t ih=>rw[List.reverse_cons,List.reverse_cons];exact ba.append ih (.cons r .nil)
theorem rX {α:Type} (l:List α):l.eraseIdx (l.length-1)=l.dropLast:=by
 induction l with
 | nil=>rfl
 | cons a r ih =>
 cases r with
 | nil=>rfl
 | cons b r =>
 have e:(a::b::r).length-1=((b::r).length-1)+1:=by
  have h1:(a::b::r).length=r.length+2:=rfl;have h2:(b::r).length=r.length+1:=rfl;omega
 rw[e,List.eraseIdx_cons_succ,ih]
 all_goals rfl
section
variable {X:Cx} {pins:F2} {U:St} {H:Hp} {s:Shared} {l b:Addr} {xs ys zs:List V}
theorem Inv.lset {its its':List Value} {n:Nat} {f:Array Value->Array Value} {t':Nat} (I:Inv X pins U H s) (hH:H l=some (.lst xs))
  (e:s.heap.get? l=some { cls:=.type "list", data:=.seq its.toArray n }) (hf:f its.toArray=its'.toArray) (hv:ba ys its') (hz:ys.length<=sizeLine) :
  Inv X pins U (upd H l (.lst ys)) { s with heap:=s.heap.update l (Obj.mapSeq f),toks:=t' }:=by
 have q:=PySem.IsL.update e f;rw[hf]at q;refine I.write (x:=l) (e:=l) (by rw[hH];exact trivial) (.inl rfl) (λb' u hb hu=>(Q3 s.heap (Obj.mapSeq f) (XH hb)).trans hu) ⟨_,q⟩ ?_;exact⟨hz,its',_,hv,q⟩
theorem Inv.lnew {its:List Value} {t':Nat} (I:Inv X pins U H s) (hv:ba ys its) (hz:ys.length<=sizeLine) :
  Inv X pins U (upd H s.heap.objs.size (.lst ys)) { s with heap:=s.heap.push { cls:=.type "list", data:=.seq its.toArray },toks:=t' } :=
 I.laid (λ_ _ q=>Qd _ q) (Qh _) {hz,its,0,hv,Qq _ rfl}
theorem Inv.fresh (I:Inv X pins U H s):H s.heap.objs.size=none:=I.hok.fresh (Qh _)
theorem Inv.lstM (I:Inv X pins U H s) (hH:H l=some (.lst xs)):xs.length<=sizeLine/\∃(its:List Value) (n:Nat),ba xs its/\xs.length=its.length/\s.heap.get? l=some { cls:=.type "list", data:=.seq its.toArray n }:=by
 obtain⟨z,its,n,r,e⟩:=I.hok l _ hH;exact⟨z,its,n,r,r.length,e⟩
end
section
variable {X:Cx}
def nV:V->List V->Hp->VK->Prop:=λx vs H Q=>∃l xs y,x=.ref l/\vs=[y]/\H l=some (.lst xs)/\xs.length<sizeLine/\Q .non (upd H l (.lst (xs++[y])))
theorem a7:MtM X "list.append" nV:=by
 intro pins s U H x vs v us Q I rx rv h;obtain⟨l,xs,y,rfl,rfl,hH,hz,q⟩:=h;cases rx;obtain⟨u,rfl,ru⟩:=rv.one;obtain⟨z,its,n,r,hl,e⟩:=I.lstM hH;refine call_meets F.slot_list_append ⟨_,e,rfl⟩ F.entry_list_append (F.args_list_append_2 _ _) (PySem.list_append l its.toArray n u (by rw[Qm];omega)) {e,?_};refine{.non,_,I.lset (its':=its++[u]) hH e (by simp) (r.append (.cons ru .nil)) ?_,rfl,q};rw[Qk,List.length_singleton];omega
def El:V->List V->Hp->VK->Prop:=λx vs H Q=>∃l xs y,x=.ref l/\vs=[]/\H l=some (.lst xs)/\xs[xs.length-1]?=some y/\Q y (upd H l (.lst xs.dropLast))
theorem AF:MtM X "list.pop" El:=by
 intro pins s U H x vs v us Q I rx rv h;obtain⟨l,xs,y,rfl,rfl,hH,hy,q⟩:=h;cases rx;have hus:=rv.zero;subst hus;obtain⟨z,its,n,r,hl,e⟩:=I.lstM hH;obtain⟨u,hu,ru⟩:=r.get hy
 have hy':its.toArray[its.toArray.size-1]?=some u:=by
  show its.toArray[its.length-1]?=some u;rw[<-QA,<-hl];exact hu
 refine call_meets F.slot_list_pop ⟨_,e,rfl⟩ F.entry_list_pop (F.args_list_pop_1 _) (MeetsSeq.list_pop_last l its.toArray n u hy' (by rw[Qm];omega)) {e,?_};refine{y,_,I.lset (its':=its.dropLast) hH e ?_ r.dropLast ?_,ru,q}
 ·show its.toArray.eraseIdxIfInBounds (its.toArray.size-1)=its.dropLast.toArray;rw[Qm,List.eraseIdxIfInBounds_toArray,rX]
 rw[List.length_dropLast];omega
def xF:R2:=λx y H Q=>∃l b xs zs,x=.ref l/\y=.ref b/\H l=some (.lst xs)/\H b=some (.lst zs)/\xs.length+zs.length<=sizeLine/\∀p,H p=none->Q (.ref p) (upd H p (.lst (xs++zs)))
theorem cu:OpR X (binaryOp .Add) xF:=by
 intro pins s U H x y v u Q I rx ry h;obtain⟨l,b,xs,zs,rfl,rfl,hH,hB,hz,q⟩:=h;cases rx;cases ry;obtain⟨z,its,n,r,hl,e⟩:=I.lstM hH;obtain⟨z2,its2,n2,r2,hl2,e2⟩:=I.lstM hB;refine PySem.P.add_list e e2 ?_ (by rw[Qm,Qm];omega);have ea:its.toArray++its2.toArray=(its++its2).toArray:=by simp
 rw[ea];exact{.ref _,_,I.lnew (t':=s.toks) (r.append r2) (by rw[Qk];omega),rfl,q _ I.fresh}
theorem yh {α:Type} (xs:List α) (k:Nat):(List.replicate k xs).flatten.length=k*xs.length:=by
 induction k with
 | zero=>simp
 | succ k ih=>rw[List.replicate_succ,List.flatten_cons,Qk,ih,Nat.succ_mul,Nat.add_comm]
end
section
variable {prog:Program} {w:World} {A:Around} {E:F1} {s:Shared}
end
section
variable {X:Cx}
end
section
variable {κ:Type} [DecidableEq κ]
def bh (kvs:List (κ × V)) (k:κ):Option V:=(kvs.find? λkv=>decide (kv.1=k)).map (·.2)
def cr (kvs:List (κ × V)) (k:κ) (v:V):List (κ × V) :=
 if (kvs.any λkv=>decide (kv.1=k))=true then kvs.map (λkv=>if kv.1=k then (kv.1,v) else kv) else kvs++[(k,v)]
variable {r kvs:List (κ × V)}
theorem bS {p:κ × V} {k:κ} (e:p.1=k):bh (p::r) k=some p.2:=by simp[bh,List.find?_cons,e]
theorem bU {p:κ × V} {k:κ} (e:¬p.1=k):bh (p::r) k=bh r k:=by simp[bh,List.find?_cons,e]
theorem c6 (k:κ):∀kvs:List (κ × V),(kvs.any λkv=>decide (kv.1=k))=(bh kvs k).isSome
 | []=>rfl
 | p::r=>by
  rw[List.any_cons];by_cases e:p.1=k
  ·simp only[bS e,Xc e,Bool.true_or,Option.isSome_some]
  rw[bU e,QY e,Bool.false_or];exact c6 k r
theorem pb (k j:κ) (y:V):∀kvs:List (κ × V),bh (kvs.map λkv=>if kv.1=k then (kv.1,y) else kv) j=(bh kvs j).map λx=>if j=k then y else x
 | []=>rfl
 | p::r=>by
  have ih:=pb k j y r;rw[QM];by_cases h:p.1=k
  ·rw[QL h];by_cases e:p.1=j
   ·rw[bS (p:=(p.1,y)) e,bS e,Option.map_some,QL (e.symm.trans h)]
   rw[bU (p:=(p.1,y)) e,bU e,ih]
  rw[QI h];by_cases e:p.1=j
  ·rw[bS (p:=p) e,bS e,Option.map_some,QI (λz=>h (e.trans z))]
  rw[bU (p:=p) e,bU e,ih]
theorem mo (k j:κ) (y:V):∀kvs:List (κ × V),bh kvs k=none->bh (kvs++[(k,y)]) j=if j=k then some y else bh kvs j
 | [],_=>by
  by_cases e:k=j
  ·rw[QL e.symm];exact bS (p:=(k,y)) e
  rw[QI (λz=>e z.symm)];exact bU (p:=(k,y)) e
 | p::r,hn=>by
  rw[List.cons_append];have hk:¬p.1=k:=λz=>by rw[bS z]at hn;cases hn
  rw[bU hk]at hn;have ih:=mo k j y r hn;by_cases e:p.1=j
  ·rw[bS e,bS e,QI (λz=>hk (e.trans z))]
  rw[bU e,bU e,ih]
theorem o_ (kvs:List (κ × V)) (k j:κ) (y:V):bh (cr kvs k y) j=if j=k then some y else bh kvs j:=by
 unfold cr;by_cases a:(kvs.any λkv=>decide (kv.1=k))=true
 ·rw[QL a,pb];rw[c6]at a;by_cases e:j=k
  ·obtain⟨x,hx⟩:=Option.isSome_iff_exists.mp a;rw[QL e,e,hx,Option.map_some,QL rfl]
  rw[QI e]
  cases bh kvs j with
  | none=>rfl
  | some x=>rw[Option.map_some,QI e]
 rw[QI a];refine mo k j y kvs ?_;rw[c6]at a
 cases q:bh kvs k with
 | none=>rfl
 | some x=>rw[q]at a;exact(a rfl).elim
theorem eP (kvs:List (κ × V)) (k:κ) (v:V):(cr kvs k v).length<=kvs.length+1:=by
 unfold cr
 split
 ·rw[Qa];omega
 rw[Qk,QS,List.length_nil];omega
theorem ee {k:κ} (v:V) (h:bh kvs k=none):cr kvs k v=kvs++[(k,v)]:=by
 unfold cr;rw[c6,h];exact QI (by decide)
theorem lG.isSome_eq {o:Option V} {u:Option Value} (r:lG o u):o.isSome=u.isSome:=by
 cases o with
 | none=>cases u with
  | none=>rfl
  | some _=>exact(show False from r).elim
 | some _=>cases u with
  | none=>exact(show False from r).elim
  | some _=>rfl
variable {vs:List (κ × Value)}
theorem KV.val (r:KV kvs vs) (k:κ):lG (bh kvs k) (valueAt vs k):=by
 unfold KV at r
 induction r with
 | nil=>exact True.intro
 | @cons p q ps qs h t ih =>
 obtain⟨h1,h2⟩:=h;by_cases e:p.1=k
 ·have e':q.1=k:=h1.symm.trans e;have b:valueAt (q::qs) k=some q.2:=by simp[valueAt,List.find?_cons,e']
  rw[bS e,b];exact h2
 have e':¬q.1=k:=λz=>e (h1.trans z);have b:valueAt (q::qs) k=valueAt qs k:=by simp[valueAt,List.find?_cons,e']
 rw[bU e,b];exact ih
theorem KV.any (r:KV kvs vs) (k:κ):(kvs.any λkv=>decide (kv.1=k))=vs.any λkv=>decide (kv.1=k):=by
 unfold KV at r
 induction r with
 | nil=>rfl
 | cons h t ih=>rw[List.any_cons,List.any_cons,ih,h.1]
theorem KV.repl (r:KV kvs vs) (k:κ) {y:V} {u:Value} (ry:aZ y u) :
  KV (kvs.map λkv=>if kv.1=k then (kv.1,y) else kv) (vs.map λkv=>if kv.1=k then (kv.1,u) else kv):=by
 unfold KV at r ⊢
 induction r with
 | nil=>exact .nil
 | @cons p q ps qs h t ih =>
 rw[QM,QM];refine .cons ?_ ih;obtain⟨h1,h2⟩:=h;by_cases e:p.1=k
 ·rw[QL e,QL (h1.symm.trans e)];exact⟨h1,ry⟩
 rw[QI e,QI (λz=>e (h1.trans z))];exact⟨h1,h2⟩
theorem KV.put (r:KV kvs vs) (k:κ) {y:V} {u:Value} (ry:aZ y u):KV (cr kvs k y) (stored vs k u):=by
 unfold cr stored;rw[r.any k];by_cases e:(vs.any λkv=>decide (kv.1=k))=true
 ·rw[QL e,QL e];exact r.repl k ry
 rw[QI e,QI e];exact Paired.snoc r ⟨rfl,ry⟩
theorem KV.length (r:KV kvs vs):kvs.length=vs.length:=Paired.length r
end
variable {u:Value} {w:World} {P prog:Program}
theorem mL {k:Key} (r:aZ (kV k) u):(bo P w).is k u=true:=by
 cases k with
 | inl i=>obtain⟨t,e⟩:=(show ∃t,u=Value.int i t from r);subst e;exact qm P w i t
 | inr x=>obtain⟨t,e⟩:=(show ∃t,u=Value.str x t from r);subst e;exact fW P w x t
theorem mM {P:Program} {w:World}:∀{ks:List Key} {us:List Value},ba (ks.map kV) us->ItemsAre (bo P w) ks us
 | [],_,r=>by rw[List.map_nil]at r;cases r;exact .nil
 | k::ks,_,r=>by
  rw[QM]at r
  cases r with
  | cons h t=>exact .cons (mL h) (mM t)
abbrev KT (H:Hp):List (List Key × V)->List (List Key × Addr × Value)->Prop:=Paired λp q=>p.1=q.1/\H q.2.1=some (.tup (p.1.map kV))/\aZ p.2 q.2.2
variable {xs:List (List Key × Addr × Value)} {kvs:List (List Key × V)} {H H':Hp}
theorem KT.val (r:KT H kvs xs) (k:List Key):lG (bh kvs k) ((atKey xs k).map (·.2)):=by
 induction r with
 | nil=>exact True.intro
 | @cons p q ps qs h t ih =>
 obtain⟨h1,_,h2⟩:=h;by_cases e:p.1=k
 ·have e':q.1=k:=h1.symm.trans e;have b:atKey (q::qs) k=some q.2:=by simp[atKey,List.find?_cons,e']
  rw[bS e,b];exact h2
 have e':¬q.1=k:=λz=>e (h1.trans z);have b:atKey (q::qs) k=atKey qs k:=by simp[atKey,List.find?_cons,e']
 rw[bU e,b];exact ih
theorem KT.repl (r:KT H kvs xs) (k:List Key) {y:V} (ry:aZ y u) :
  KT H (kvs.map λkv=>if kv.1=k then (kv.1,y) else kv) (xs.map (putAt k u)):=by
 induction r with
 | nil=>exact .nil
 | @cons p q ps qs h t ih =>
 rw[QM,QM];refine .cons ?_ ih;obtain⟨h1,h2,h3⟩:=h;unfold putAt;by_cases e:p.1=k
 ·rw[QL e,QL (h1.symm.trans e)];exact⟨h1,h2,ry⟩
 rw[QI e,QI (λz=>e (h1.trans z))];exact⟨h1,h2,h3⟩
theorem KT.put (r:KT H kvs xs) (k:List Key) {b:Addr} {y:V} (hb:H b=some (.tup (k.map kV))) (ry:aZ y u) :
  KT H (cr kvs k y) (storedH xs k b u):=by
 have e:(kvs.any λkv=>decide (kv.1=k))=(atKey xs k).isSome:=by
  rw[c6,(r.val k).isSome_eq,Option.isSome_map]
 unfold cr storedH;rw[e];by_cases q:(atKey xs k).isSome=true
 ·rw[QL q,QL q];exact r.repl k ry
 rw[QI q,QI q];exact Paired.snoc r ⟨rfl,hb,ry⟩
theorem KT.keeps (r:KT H kvs xs) (ht:∀b ys,H b=some (.tup ys)->H' b=some (.tup ys)):KT H' kvs xs :=
 Paired.mapP r λ_ _ z=>{z.1,ht _ _ z.2.1,z.2.2}
section
variable {P:Program} {w:World} {H:Hp} {h:Heap} {a:Addr}
theorem yT {u:HO} (ok:HOk P w H h) (e:Rd H a u):bD P w H h a u:=e.ok ok
theorem jd {kvs:List (Key × V)} (ok:HOk P w H h) (e:Rd H a (.dK kvs)):kvs.length<=sizeLine/\(a==sysModules)=false/\∃vs,KV kvs vs/\h.DictOf (bo P w) a vs :=
 show bD P w H h a (.dK kvs) from yT ok e
theorem mQ {kvs:List (Key × V)} (ok:HOk P w H h) (e:H a=some (.dK kvs)):kvs.length<=sizeLine/\(a==sysModules)=false/\∃vs,KV kvs vs/\h.DictOf (bo P w) a vs:=jd ok (.inl e)
theorem kO {ks:List Key} (ok:HOk P w H h) (e:H a=some (.tup (ks.map kV))):(tupleKind (bo P w)).is h ks a:=by
 obtain⟨_,its,r,o,h1,h2,n,h3⟩:=(show bD P w H h a (.tup (ks.map kV)) from ok a _ e);exact{o,its.toArray,n,h1,h2,h3,by simpa using mM r}
variable {kvs:List (List Key × V)}
theorem qD (ok:HOk P w H h) (e:Rd H a (.dT kvs)):kvs.length<=sizeLine/\(a==sysModules)=false /\
  ∃xs,KT H kvs xs/\h.DictOfH (tupleKind (bo P w)) a xs:=by
 obtain⟨z,y,xs,r,o,es,ep,h1,h2,h3,h4,h5⟩:=(show bD P w H h a (.dT kvs) from yT ok e);refine{z,y,xs,r,o,es,ep,h1,h2,h3,h4,λx hx=>?_,h5}
 have all:∀{l:List (List Key × V)} {m:List (List Key × Addr × Value)},KT H l m->∀x∈m,(tupleKind (bo P w)).is h x.1 x.2.1:=by
  intro l m q
  induction q with
  | nil=>intro x hx;exact nomatch hx
  | @cons p q ps qs hq t ih =>
  intro x hx;rcases QO.mp hx with e|hx
  ·subst e;exact kO ok (by rw[<-hq.1];exact hq.2.1)
  exact ih x hx
 exact all r x hx
theorem D7 (ok:HOk P w H h) (e:H a=some (.dT kvs)):kvs.length<=sizeLine/\(a==sysModules)=false /\
  ∃xs,KT H kvs xs/\h.DictOfH (tupleKind (bo P w)) a xs:=qD ok (.inl e)
end
def cK (H:Hp) (a:Addr) (y:V) (r:Option V):Prop :=
 (∃kvs k,Rd H a (.dK kvs)/\y=kV k/\r=bh kvs k)\/∃kvs k b,Rd H a (.dT kvs)/\y=.ref b/\H b=some (.tup (k.map kV))/\r=bh kvs k
def iD (H:Hp) (a:Addr) (y v:V) (H':Hp):Prop :=
 (∃kvs k,H a=some (.dK kvs)/\y=kV k/\kvs.length<sizeLine/\H'=upd H a (.dK (cr kvs k v))) \/
 ∃kvs k b,H a=some (.dT kvs)/\y=.ref b/\H b=some (.tup (k.map kV))/\kvs.length<sizeLine/\H'=upd H a (.dT (cr kvs k v))
theorem cK.k {H:Hp} {a:Addr} {kvs:List (Key × V)} {k:Key} (e:H a=some (.dK kvs)):cK H a (kV k) (bh kvs k):=.inl {kvs,k,.inl e,rfl,rfl}
theorem iD.k {H:Hp} {a:Addr} {kvs:List (Key × V)} {k:Key} {v:V} (e:H a=some (.dK kvs)) (hl:kvs.length<sizeLine):iD H a (kV k) v (upd H a (.dK (cr kvs k v))):=.inl ⟨kvs,k,e,rfl,hl,rfl⟩
section
variable {X:Cx} {pins:F2} {U:St} {H:Hp} {s:Shared} {a:Addr} {y v:V} {u r:Value} {o:Option V} {A:Around} {E:F1}
theorem Inv.big (I:Inv X pins U H s):sysModules<s.heap.objs.size:=by
 have h:mainGlobals<s.heap.objs.size:=(I.mod.glob.keeps I.bk).lt;exact Nat.lt_trans (by decide) h
variable {Q:F1}
theorem mT (hu:A.units+1<cLine) (I:Inv X pins U H s) (g:cK H a y (some v)) (ry:aZ y u) (h:∀w' s',Inv X pins U H s'->aZ v w'->Q w' s') :
  wpAny (model X.prog X.w) A (getItem (.ref a) u) Q E s:=by
 rcases g with⟨kvs,k,e,ey,l⟩|⟨kvs,k,b,e,ey,eb,l⟩
 ·subst ey;obtain⟨z,hd,vs,rel,dd⟩:=jd I.hok e;obtain⟨w',hw,rw'⟩:=lG.some_of (v:=v) (o:=valueAt vs k) (by rw[l];exact rel.val k);exact wpAny_getItem_of (mL ry) dd.mapOf hw (h w' _ (I.tok _) rw')
 subst ey;cases (show u=Value.ref b from ry);obtain⟨z,hd,xs,rel,dd⟩:=qD I.hok e;obtain⟨w',hw,rw'⟩:=lG.some_of (v:=v) (o:=(atKey xs k).map (·.2)) (by rw[l];exact rel.val k);obtain⟨p,hp,hp2⟩:=Option.map_eq_some_iff.mp hw;refine wpAny_getItem_heap (tupleKind_room_in1 hu) (kO I.hok eb) dd hp ?_;rw[hp2];exact h w' _ (I.tok _) rw'
theorem Ff (hu:A.units+1<cLine) (I:Inv X pins U H s) (g:cK H a y o) (ry:aZ y u) (h:∀s',Inv X pins U H s'->Q (.bool o.isSome) s') :
  wpAny (model X.prog X.w) A (compareOp .In u (.ref a)) Q E s:=by
 rcases g with⟨kvs,k,e,ey,l⟩|⟨kvs,k,b,e,ey,eb,l⟩
 ·subst ey;obtain⟨z,hd,vs,rel,dd⟩:=jd I.hok e;refine wpAny_in_of (mL ry) hd dd.mapOf ?_;rw[<-(rel.val k).isSome_eq,<-l];exact h _ (I.tok _)
 subst ey;cases (show u=Value.ref b from ry);obtain⟨z,hd,xs,rel,dd⟩:=qD I.hok e;refine wpAny_in_heap (tupleKind_room_in1 hu) (kO I.hok eb) hd dd ?_;have q:=(rel.val k).isSome_eq;rw[Option.isSome_map]at q;rw[<-q,<-l];exact h _ (I.tok _)
theorem yu (hu:A.units+1<cLine) (I:Inv X pins U H s) (g:cK H a y o) (ry:aZ y u) (h:∀s',Inv X pins U H s'->Q (.bool (!o.isSome)) s') :
  wpAny (model X.prog X.w) A (compareOp .NotIn u (.ref a)) Q E s:=by
 rcases g with⟨kvs,k,e,ey,l⟩|⟨kvs,k,b,e,ey,eb,l⟩
 ·subst ey;obtain⟨z,hd,vs,rel,dd⟩:=jd I.hok e;refine wpAny_notIn_of (mL ry) hd dd.mapOf ?_;rw[<-(rel.val k).isSome_eq,<-l];exact h _ (I.tok _)
 subst ey;cases (show u=Value.ref b from ry);obtain⟨z,hd,xs,rel,dd⟩:=qD I.hok e;refine wpAny_notIn_heap (tupleKind_room_in1 hu) (kO I.hok eb) hd dd ?_;have q:=(rel.val k).isSome_eq;rw[Option.isSome_map]at q;rw[<-q,<-l];exact h _ (I.tok _)
theorem oD {h':Heap} {t':Nat} {ob:HO} (I:Inv X pins U H s) (mu:Mut (H a)) (hs:Heap.SameBut a s.heap h') (he:∃q,h'.get? a=some q) (new:bD X.prog X.w (upd H a ob) h' a ob) :
  Inv X pins U (upd H a ob) { s with heap:=h',toks:=t' } :=
 I.write (x:=a) (e:=a) mu (.inl rfl) (λb q hb z=>(hs.2 b hb).trans z) he new
theorem wV {P:Program} {w:World} {H':Hp} {h':Heap} {kvs:List (Key × V)} {vs:List (Key × Value)} (z:kvs.length<=sizeLine) (hd:(a==sysModules)=false) (rel:KV kvs vs) (dd:h'.DictOf (bo P w) a vs) :
  bD P w H' h' a (.dK kvs):=⟨z,hd,vs,rel,dd⟩
theorem mS {H':Hp} {Q:Unit->Shared->Prop} (hu:A.units+1<cLine) (I:Inv X pins U H s) (g:iD H a y v H') (ry:aZ y u) (rv:aZ v r) (h:∀s',Inv X pins U H' s'->Q () s') :
  wpAny (model X.prog X.w) A (setItem (.ref a) u r) Q E s:=by
 rcases g with⟨kvs,k,e,ey,l,eH⟩|⟨kvs,k,b,e,ey,eb,l,eH⟩
 ·subst ey eH;obtain⟨z,hd,vs,rel,dd⟩:=mQ I.hok e;have hz:vs.length<=sizeLine:=by rw[<-rel.length];exact z
  have hl:(cr kvs k v).length<=sizeLine:=by have:=eP kvs k v;omega
  refine wpAny_setItem_pairs (hsz:=hz) (mL ry) dd λh' dd' hs=>h _ ?_;have he:∃q,h'.get? a=some q:=let ⟨q,_,_,hq,_⟩:=dd';⟨q,hq⟩;exact oD I (by rw[e];exact True.intro) hs he (wV hl hd (rel.put k rv) dd')
 subst ey eH;cases (show u=Value.ref b from ry);obtain⟨z,hd,xs,rel,dd⟩:=D7 I.hok e;have hz:xs.length<=sizeLine:=by rw[<-Paired.length rel];exact z
 have hl:(cr kvs k v).length<=sizeLine:=by have:=eP kvs k v;omega
 refine wpAny_setItem_heap (hsz:=hz) (tupleKind_room_in1 hu) (kO I.hok eb) dd λh' dd' hs=>h _ ?_;obtain⟨q,es,ep,hq,h2,h3,h4,_,h5⟩:=dd';refine oD I (by rw[e];exact True.intro) hs ⟨q,hq⟩ {hl,hd,_,(rel.put k eb rv).keeps λc ys ec=>?_,q,es,ep,hq,h2,h3,h4,h5};rw[am (DR ec e (λz=>nomatch z))];exact ec
end
section
variable {X:Cx} {pins:F2} {U:St} {H:Hp} {s:Shared} {a:Addr} {kvs:List (Key × V)} {k:Key} {u:Value} {A:Around} {E:F1}
theorem D8 {Q:F1} (I:Inv X pins U H s) (e:Rd H a (.dK kvs)) (h:∀t s',Inv X pins U H s'->Q (.int kvs.length t) s'):wpAny (model X.prog X.w) A (call (.builtin "len") [.ref a]) Q E s:=by
 obtain⟨z,hd,vs,rel,dd⟩:=jd I.hok e;refine call_len_dict hd dd (by rw[<-rel.length];rw[Xx]at z;omega) ?_;rw[<-rel.length];exact h _ _ (I.tok _)
end
def Ee (i:Expr):Prop:=∀ov iv,subscripted i false ov iv=operate [ov,iv] (getItem ov iv)
variable {Q E:F1} {pos:Pos}
theorem xA {A:Around} {s:Shared} {env:Env} {value slice:Expr} {T id:String}
  (hl:typeLookup (.type T) "__getitem__" = pure (some (.builtin id))) (hs:Ee slice)
  (h:wpAny (model prog w) A (eval value env) (λo s₁=>wpAny (model prog w) A (eval slice env) (λi s₂=>s₂.TypeIs o T/\wpAny (model prog w) A (getItem o i) Q E s₂) E s₁) E s) :
  wpAny (model prog w) A (eval (.Subscript value slice pos) env) Q E s:=by
 refine Subscript_ (Xp h (λo s₁ h₁=>Xp h₁ (λi s₂ h₂=>?_) λ_ _ x=>x) λ_ _ x=>x);obtain⟨hT,h₂⟩:=h₂;unfold subscriptTail;refine Qb ?_;rw[getitemInPython_of_ne hT.not_modules];refine Qb (wpAny_specialOf hT hl ?_)
 have fin:wpAny (model prog w) A (subscripted slice false o i) (λr s₃=>wpAny (model prog w) A (letTemporaryGo value o r >>= λ_=>pure r) Q E s₃) E s₂:=by
  rw[hs o i];exact wpAny_operating (Xp h₂ (λr s₃ h₃=>Qb (wpAny_letTemporaryGo (Qf h₃))) λ_ _ x=>x)
 first
  | exact Qf (Qb fin)
  | exact Qb (Qf (Qb fin))
  | exact Qb fin
variable {X:Cx}
theorem qF {pins:F2} {U:St} {s:Shared} {a:Addr} {y:V} {o:Option V} (I:Inv X pins U H s) (g:cK H a y o):s.TypeIs (.ref a) "dict" := by
 rcases g with⟨kvs,k,e,_,_⟩|⟨kvs,k,b,e,_,_,_⟩
 ·obtain⟨_,_,vs,_,dd⟩:=jd I.hok e;exact dd.typeIs
 obtain⟨_,_,xs,_,dd⟩:=qD I.hok e;exact dd.typeIs
def yM (td ty:TE):TE:=λU H Q=>td U H λx H1=>ty U H1 λy H2=>∃a v,x=.ref a/\cK H2 a y (some v)/\Q v H2
def Bh (ty td:TE):TE:=λU H Q=>ty U H λy H1=>td U H1 λx H2=>∃a o,x=.ref a/\cK H2 a y o/\Q (.bl o.isSome) H2
def sF (ty td:TE):TE:=λU H Q=>ty U H λy H1=>td U H1 λx H2=>∃a o,x=.ref a/\cK H2 a y o/\Q (.bl (!o.isSome)) H2
def yR (td ty tv:TE):TS:=λD U H=>tv U H λv H1=>td U H1 λx H2=>ty U H2 λy H3=>∃a H4,x=.ref a/\iD H3 a y v H4/\D.nx U H4
def yS (td ty tv:TE) (rd:V->V->Hp->VK->Prop):TS:=λD U H=>td U H λx H1=>ty U H1 λy H2=>∃a v,x=.ref a/\cK H2 a y (some v) /\
 tv U H2 λy2 H3=>rd v y2 H3 λz H4=>∃H5,iD H4 a y z H5/\D.nx U H5
section
variable {X:Cx} {o i e value:Expr} {pos pos' tpos:Pos} {td ty tv:TE}
theorem bG (hu:X.A.units+1<cLine) (ho:PE X o td) (hi:PE X i ty) (hs:Ee i:=by exact λ_ _=>rfl):PE X (.Subscript o i pos) (yM td ty):=by
 intro pins s U H Q I h;refine xA PySem.F.slot_dict_getitem.lookup hs (thn (ho pins s U H _ I h) λu s1 ⟨x,H1,I1,rx,q1⟩=>thn (hi pins s1 U H1 _ I1 q1) λiv s2 ⟨y,H2,I2,ry,a,v,ex,g,q2⟩=>?_);subst ex;obtain rfl:u=Value.ref a:=rx;exact{qF I2 g,mT hu I2 g ry λw' s3 I3 rw'=>⟨v,H2,I3,rw',q2⟩}
theorem Al (hu:X.A.units+1<cLine) (hi:PE X i ty) (ho:PE X o td):PC X .In i o (Bh ty td):=by
 intro pins s U H Q I h;refine thn (hi pins s U H _ I h) λiv s1 ⟨y,H1,I1,ry,q1⟩=>thn (ho pins s1 U H1 _ I1 q1) λu s2 ⟨x,H2,I2,rx,a,ov,ex,g,q2⟩=>?_;subst ex;obtain rfl:u=Value.ref a:=rx;exact Ff hu I2 g ry λs3 I3=>{.bl ov.isSome,H2,I3,rfl,q2}
theorem d8 (hu:X.A.units+1<cLine) (hi:PE X i ty) (ho:PE X o td):PC X .NotIn i o (sF ty td):=by
 intro pins s U H Q I h;refine thn (hi pins s U H _ I h) λiv s1 ⟨y,H1,I1,ry,q1⟩=>thn (ho pins s1 U H1 _ I1 q1) λu s2 ⟨x,H2,I2,rx,a,ov,ex,g,q2⟩=>?_;subst ex;obtain rfl:u=Value.ref a:=rx;exact yu hu I2 g ry λs3 I3=>{.bl (!ov.isSome),H2,I3,rfl,q2}
theorem gq (hu:X.A.units+1<cLine) (ho:PE X o td) (hi:PE X i ty) (hv:PE X value tv) (hs:swapsWith value (some (.Subscript o i pos')) pos.line X.env=pure false) :
  PS X (.Assign [.Subscript o i pos'] value pos) (yR td ty tv):=by
 intro pins s U H D I h;refine wpAny_Assign_Subscript (thn (hv pins s U H _ I h) λr s1 ⟨v,H1,I1,rv,q1⟩=>thn (ho pins s1 U H1 _ I1 q1) λu s2 ⟨x,H2,I2,rx,q2⟩=>thn (hi pins s2 U H2 _ I2 q2) λiv s3 ⟨y,H3,I3,ry,a,H4,ex,g,q3⟩=>?_) hs;subst ex;obtain rfl:u=Value.ref a:=rx;exact mS hu I3 g ry rv λs4 I4=>⟨U,H4,I4,q3⟩
theorem xG {op:Operator} {rd:V->V->Hp->VK->Prop} (hu:X.A.units+1<cLine) (ho:PE X o td) (hi:PE X i ty) (hv:PE X value tv) (hop:Ef X op rd)
  (ha:∀ov iv new,augStore i ov iv new=(do holding [new,ov,iv] (setItem ov iv new);release [new,ov,iv] [];pure .next)):PS X (.AugAssign (.Subscript o i tpos) op value pos) (yS td ty tv rd):=by
 intro pins s U H D I h;refine wpAny_AugAssign_SubscriptAny (thn (ho pins s U H _ I h) λu s1 ⟨x,H1,I1,rx,q1⟩=>thn (hi pins s1 U H1 _ I1 q1) λiv s2 ⟨y,H2,I2,ry,a,v,ex,g,q2⟩=>?_) ha;subst ex;obtain rfl:u=Value.ref a:=rx;refine mT hu I2 g ry λw' s3 I3 rw'=>thn (hv pins s3 U H2 _ I3 q2) λw2 s4 ⟨y2,H3,I4,ry2,q3⟩=>thn (hop pins s4 U H3 v y2 w' w2 _ I4 rw' ry2 q3) λw3 s5 ⟨z,H4,I5,rz,H5,g5,q4⟩=>?_;exact mS hu I5 g5 ry rz λs6 I6=>⟨U,H5,I6,q4⟩
end
theorem qE (h:Heap) (hb:sysModules<h.objs.size):bD P w H (h.push { cls:=.type "dict", data:=.dict #[] }) h.objs.size (.dK []) :=
 {QG _,beq_eq_false_iff_ne.mpr (XH (Qz hb)),[],.nil,Heap.DictOf.new h}
def zU:TE:=λ_ H Q=>∀p,H p=none->Q (.ref p) (upd H p (.dK []))
section
variable {X:Cx} {pos:Pos}
theorem il:PE X (.Dict [] [] pos) zU:=λpins s U H Q I h =>
 wpAny_Dict_empty {.ref s.heap.objs.size,_,I.laid (a:=s.heap.objs.size) (o:=.dK []) (t':=s.toks) (λ_ _ q=>Qd _ q) (Qh _) (qE s.heap I.big),rfl,h _ (I.hok.fresh (Qh _))}
end
def qS:List (TE × TE)->St->Hp->(List (V × V)->Hp->Prop)->Prop
 | [],_,H,Q=>Q [] H
 | (tk,tv)::r,U,H,Q=>tk U H λx H1=>tv U H1 λy H2=>qS r U H2 λps H3=>Q ((x,y)::ps) H3
abbrev VV:List (V × V)->List (Value × Value)->Prop:=Paired λp q=>aZ p.1 q.1/\aZ p.2 q.2
def PPs (X:Cx) (pos:Pos) (keys:List (Option Expr)) (values:List Expr) (trs:List (TE × TE)):Prop :=
 ∀(pins:F2) (s:Shared) (U:St) (H:Hp) (Q:List (V × V)->Hp->Prop),Inv X pins U H s->qS trs U H Q ->
  wpAny (model X.prog X.w) X.A (evalPairs (pairTrees keys values X.env pos)) (λvs s'=>∃ps H',Inv X pins U H' s'/\VV ps vs/\Q ps H') X.xe s
theorem xH:PPs X pos [] [] []:=λpins s U H Q I h=>pairTrees_nil_walk {[],H,I,.nil,h}
variable {trs:List (TE × TE)}
theorem vP {k v:Expr} {ks:List (Option Expr)} {vs:List Expr} {tk tv:TE} (hk:PE X k tk) (hv:PE X v tv) (hr:PPs X pos ks vs trs) :
  PPs X pos (some k::ks) (v::vs) ((tk,tv)::trs):=λpins s U H Q I h =>
 pairTrees_cons_walk (thn (hk pins s U H _ I h) λu s1 ⟨x,H1,I1,rx,q1⟩=>thn (hv pins s1 U H1 _ I1 q1) λw2 s2 ⟨y,H2,I2,ry,q2⟩ =>
  thn (hr pins s2 U H2 _ I2 q2) λws s3 ⟨ps,H3,I3,rel,q3⟩=>{(x,y)::ps,H3,I3,.cons ⟨rx,ry⟩ rel,q3})
def kI (kvs more:List (Key × V)):List (Key × V):=more.foldl (λacc kv=>cr acc kv.1 kv.2) kvs
theorem KV.merge:∀{more:List (Key × V)} {rs:List (Key × Value)} {kvs:List (Key × V)} {vs:List (Key × Value)},KV more rs->KV kvs vs->KV (kI kvs more) (merged vs rs):=by
 intro more rs kvs vs r;unfold KV at r
 induction r generalizing kvs vs with
 | nil=>intro q;exact q
 | @cons p q ps qs h t ih =>
 intro r0
 have e:KV (cr kvs p.1 p.2) (stored vs q.1 q.2):=by
  have:=r0.put p.1 h.2;rw[<-h.1];exact this
 exact ih e
theorem gE:∀(more kvs:List (Key × V)),(kI kvs more).length<=kvs.length+more.length
 | [],kvs=>by show kvs.length<=kvs.length+0;omega
 | p::r,kvs=>by
  have h1:=gE r (cr kvs p.1 p.2);have h2:=eP kvs p.1 p.2;show (kI (cr kvs p.1 p.2) r).length<=_;rw[QS];omega
theorem k9 {P:Program} {w:World}:∀{kvs:List (Key × V)} {ws:List (Value × Value)},VV (kvs.map λkv=>(kV kv.1,kv.2)) ws->∃rs,Carries (bo P w) ws rs/\KV kvs rs
 | [],_,r=>by rw[List.map_nil]at r;cases r;exact{[],True.intro,.nil}
 | p::kvs,_,r=>by
  rw[QM]at r
  cases r with
  | @cons a b as bs h t =>
  obtain⟨rs,c,q⟩:=k9 (P:=P) (w:=w) t;obtain⟨b1,b2⟩:=b;exact{(p.1,b2)::rs,{mL h.1,rfl,c},.cons ⟨rfl,h.2⟩ q}
def Bg (trs:List (TE × TE)):TE:=λU H Q=>∀p,H p=none->qS trs U (upd H p (.dK [])) λps H2=>H2 p=some (.dK [])/\∃kvs:List (Key × V),ps=kvs.map (λkv=>(kV kv.1,kv.2))/\kvs.length<=15/\Q (.ref p) (upd H2 p (.dK (kI [] kvs)))
theorem xL {keys:List (Option Expr)} {values:List Expr} (h:PPs X pos keys values trs) (hall:keys.all (·.isSome)=true) (hl:keys.length=values.length) (h0:keys≠[])
  (h15:keys.length<=15):PE X (.Dict keys values pos) (Bg trs):=by
 intro pins s U H Q I q;have hn:=I.hok.fresh (Qh s.heap.objs.size);have I1:=I.laid (a:=s.heap.objs.size) (o:=.dK []) (h':=s.heap.push { cls:=.type "dict", data:=.dict #[] }) (t':=s.toks) (λ_ _ q=>Qd _ q) (Qh _) (qE s.heap I.big);refine wpAny_Dict_walk (knd:=bo X.prog X.w) hall hl h0 h15 (thn (h pins _ U _ _ I1 (q _ hn)) λws s2 ⟨ps,H2,I2,rel,e,kvs,ep,lk,q2⟩=>?_);subst ep;obtain⟨rs,c,rk⟩:=k9 (P:=X.prog) (w:=X.w) rel;obtain⟨z,hd,vs0,r0,dd⟩:=mQ I2.hok e;cases r0;refine{rs,c,dd,λh' dd' hs=>{.ref s.heap.objs.size,_,?_,rfl,q2} }
 have hz:(kI [] kvs).length<=sizeLine:=by
  have h1:=gE kvs [];rw[List.length_nil]at h1;rw[Xx];omega
 have he:∃q,h'.get? s.heap.objs.size=some q:=let ⟨q,_,_,hq,_⟩:=dd';⟨q,hq⟩;exact oD I2 (by rw[e];exact True.intro) hs he (wV hz hd (rk.merge .nil) dd')
structure M1 (X:Cx) (o:Expr) (m:Str) (apos:Pos) (e:Expr) (cpos:Pos):Prop where
 base:attributeBase o m X.env (eval o X.env)=eval o X.env
 few:((backTo cpos (starEach [e] X.env)).all (λx=>!x.1)&&(backToKw cpos (keywordEach [] X.env)).all (λx=>x.1.isSome)
  && decide (([e]:List Expr).length+([]:List Keyword).length+(if ([]:List Keyword).isEmpty then 0 else 1)<30))=true
 line:(apos.endLine==cpos.line)=true
 trees:backTo cpos (starEach [e] X.env)=[(false,eval e X.env)]
structure M2 (X:Cx) (o:Expr) (m:Str) (apos:Pos) (e f:Expr) (cpos:Pos):Prop where
 base:attributeBase o m X.env (eval o X.env)=eval o X.env
 few:((backTo cpos (starEach [e,f] X.env)).all (λx=>!x.1)&&(backToKw cpos (keywordEach [] X.env)).all (λx=>x.1.isSome)
  && decide (([e,f]:List Expr).length+([]:List Keyword).length+(if ([]:List Keyword).isEmpty then 0 else 1)<30))=true
 line:(apos.endLine==cpos.line)=true
 trees:backTo cpos (starEach [e,f] X.env)=[(false,eval e X.env),(false,eval f X.env)]
section
variable {X:Cx} {pins:F2} {U:St} {H:Hp} {s:Shared} {a:Addr} {y d:V} {u r:Value} {o:Option V} {A:Around} {E:F1}
end
section
variable {X:Cx} {o e f:Expr} {apos cpos:Pos} {td ty tx:TE}
end
section
variable {X:Cx} {pins:F2} {U:St} {H:Hp} {s:Shared} {a:Addr} {kvs:List (Key × V)} {A:Around} {E:F1}
end
section
variable {X:Cx} {pins:F2} {U:St} {H:Hp} {s:Shared} {a:Addr} {y:V} {u:Value} {A:Around} {E:F1}
end
end L2
namespace Att
open PySem PySem.W PySem.Calls PyProof.Rows
theorem jr {P:Params} {h:Heap}:∀(ns:List Int) (vs:List Value),WellAll P h vs (ns.map WData.int)->IntsAre vs ns:=by
 intro ns
 induction ns with
 | nil =>
  intro vs w;rw[List.map_nil]at w;cases w;exact .nil
 | cons n ns ih =>
 intro vs w;rw[QM]at w
 cases w with
 | cons a b =>
 cases a;exact .cons _ _ (ih _ b)
theorem ud {l:OpenLaw} {n:Nat} (hn:l.most=some n) {P:Params} {h:Heap} {args:List WData} {vals:List Value}
  (hpre:l.row.toRowW.claim.pre args=true) (hwl:WellAll P h vals args) :
  ∃a vs ns,vals=[Value.ref a]/\args=[WData.list (ns.map WData.int)]/\h.get? a=some { cls:=.type "list", data:=.seq vs.toArray }/\IntsAre vs ns/\ns.length<=n:=by
 have hsh:WShape.hasAll [] args [.list .int]=true:=(pre_splitW hpre).1;have hc:l.pre.holds [] { args:=args }=true:=(pre_splitW hpre).2;obtain⟨d,r,rfl,h1,h2⟩:=hasAllW_cons hsh;obtain rfl:=hasAllW_nil h2;obtain⟨xs,rfl,h3⟩:=hasW_list h1;obtain⟨ns,rfl⟩:=items_int h3
 have hlen:ns.length<=n:=by
  unfold OpenLaw.pre at hc
  have h4:(WTm.not (.lt (.lit (.int (n:Int))) (.len (.arg 0)))).holds [] { args:=[.list (ns.map .int)] }=true:=by
   have h4:=(holds_andW hc).1;rw[hn]at h4;exact h4
  have h5:=condW_of h4 (w_not (w_lt w_lit (w_len_list (w_arg rfl))));rw[Qa]at h5;refine Nat.le_of_not_lt λq=>?_;have q':(n:Int)<((ns.length:Nat):Int):=by omega
  first
   | (rw[Xc q']at h5;exact absurd h5 (by decide))
   | (simp at h5;omega)
 cases hwl with
 | cons w1 w2 =>
 cases w2
 cases w1 with
 | list ho hall=>exact{_,_,ns,rfl,rfl,ho,jr ns _ hall,hlen}
theorem uk (l:OpenLaw) (args:List WData):l.row.toRowW.claim.post args (.bool true) args=true :=
 postW_of (r:=l.row.toRowW) (X:=(true==true))
  (show WShape.has [] (.bool true) .bool=true by first|rfl|decide|simp[WShape.has,WShape.arms,WShape.armsAll])
  (show (WTm.eq .res (.lit (.bool true))).value [] { args:=args,res:=some (.bool true),after:=args }=some (.bool (true==true)) from w_eq_bool (w_res rfl) w_lit) rfl
theorem qJ {l:OpenLaw} {n:Nat} {q:Program} {loose:List Str} {XP:F3->Heap->Prop} {YP:World->Heap->Prop} {d:DefRec}
  (hn:l.most=some n) (hdf:d.params.defaults=[])
  (call:∀(w:World) (s₀ s₁:Shared) (mg mb:F3) (fa:Addr) (o:Obj) (pm cd doc:Value) (a:Addr) (vs:List Value) (ns:List Int),
   Ground q loose [] XP w s₀ mg mb s₁.heap->YP w s₁.heap ->
   s₁.heap.get? fa=some o->o.data=.func (docDef d.name d.params d.body d.scope pm cd doc)->s₁.heap.CodeRec cd d.name->mg d.name=some (.ref fa) ->
   s₁.heap.get? a=some { cls:=.type "list", data:=.seq vs.toArray }->IntsAre vs ns->ns.length<=n->s₁.gens=#[] ->
   codeAny (model l.prog w) callerA (.call (.ref fa) {[.ref a],[]}) (λr s'=>r=.ok (.ret (.bool true))/\OldK s₁.heap s'.heap/\s'.os=s₁.os/\AllBare s'.gens) s₁) :
  WalkO q loose XP YP l.row.toRowW d [] (λf vs=>PySem.call f vs):=by
 intro w s₀ s₁ mg mb G Y fa o pm cd doc dV kV ho hd hcd hD hmg hg args vals as hpre hlay hrd hwl hlo;obtain rfl:dV=.none:=Dflts.none hD hdf;obtain rfl:kV=.none:=Dflts.noKw hD;obtain⟨a,vs,ns,rfl,rfl,hobj,hints,hlen⟩:=ud hn hpre hwl;refine enter_call (codeAny_mono (call w s₀ s₁ mg mb fa o pm cd doc a vs ns G Y ho (fd_plain hd) hcd hmg hobj hints hlen hg) λr s' hq=>?_);obtain⟨rfl,h2,h3,h4⟩:=hq;exact{.inl {.bool true,.bool true,[],rfl,λ_=>rfl,.bool true,uk l _,λ_=>{List.Pairwise.nil,λ_ hm=>(nomatch hm)} },h2,h3,h4}
section
variable {prog:Program} {w:World} {A:Around} {E:F1} {s:Shared} {K:Frag}
end
end Att
namespace L2
open PySem PySem.Spec PyProof.Rows
theorem mn:∀{vs:List Value} {ns:List Int},IntsAre vs ns->ba (ns.map V.int) vs
 | _,_,.nil=>.nil
 | _,_,.cons n t h=>.cons ⟨t,rfl⟩ (mn h)
end L2
/- THE LAST THEOREM (shape;LID,My.* are yours):
  My.Adr: a structure of the addresses that your layer names (classes,functions);My.Txt K t: a structure (Prop) of the equations over K;
  My.txt_mk:{K} {implicit addresses ..} (e1:nsIn K mainGlobals "law" = some (some (.ref f))) (e2:K.lookup f=some ⟨oc,od,.func (fnOf "law" "law" params body scope dV kV doc pm an cdv ct),sl⟩) (e3:codeIn K cdv "law" = true) ..:∃t,My.Txt K t
(the tactic k_is has no namespace: write k_is) -/
namespace L2
open PySem PySem.Spec PyProof.Rows
abbrev CX0:CXT:=λ_ _ _ _ _ _=>False
abbrev E0:XK:=λ_ _ _=>False
theorem zb {X:Cx}:lI CX0 X E0:=λ_ _ _ _ _ _ _ h=>h.elim
structure Fun (K:PySem.W.Frag) (x qual:Str) (st:Stmt) (f:Addr) (fd:FuncData):Prop where
 ex:∃(oc:Value) (od:Option Addr) (kV doc pm:Value) (an:Option Addr) (cdv ct:Value) (osl:Array (Option Value)),
  fd=PySem.W.fnOf x qual (dI st) (cJ st) (aB st) .none kV doc pm an cdv ct/\K.lookup f=some {oc,od,.func fd,osl}/\PySem.W.codeIn K cdv qual=true
 kp:PySem.W.keepIn K (.ref f)=true
section
variable {P:Program} {w:World} {K:PySem.W.Frag} {mg:F3} {base:Heap}
variable {x qual:Str}
theorem Fun.ok {st:Stmt} {f:Addr} {fd:FuncData} {N ps:List Str} {k:Nat} {sp:Sp} (F:Fun K x qual st f fd) (S:FnScope N ps (aB st)) (len:∀vs H Q E,sp vs H Q E->vs.length=ps.length)
  (hbody:∀(cdv:Value) (A:Around) (outer:List Env) (s:Shared) (H:Hp) (vs:List V) (Q:VK) (E:XK),Room k (A.deeper (envOfC qual (aB st) s.heap.objs.size f cdv))->sp vs H Q E ->
   ∃t,PSs (cxOf CX0 P w K mg base N qual (aB st) f cdv A outer s H E).nox (cJ st) t/\t { nx:=λ_ H'=>Q .non H',rt:=Q } (start N vs) H):FnOk P w K mg base CX0 (k+1) f fd ps sp:=by
 obtain⟨oc,od,kV,doc,pm,an,cdv,ct,osl,rfl,lk,hcd⟩:=F.ex;refine zN lk hcd S len λA outer s H vs Q E hr hsp=>?_;obtain⟨t,h,q⟩:=hbody cdv A outer s H vs Q E hr hsp;exact⟨t,h.nox,q⟩
theorem Fun.binds {st:Stmt} {f:Addr} {fd:FuncData} {ps:List Str} (F:Fun K x qual st f fd)
  (h:∀(kV doc pm:Value) (an:Option Addr) (cdv ct:Value) (us:List Value),us.length=ps.length->bindArgs (PySem.W.fnOf x qual (dI st) (cJ st) (aB st) .none kV doc pm an cdv ct) {us,[]}=pure (ps.zip us)):gJ K fd ps []:=by
 obtain⟨oc,od,kV,doc,pm,an,cdv,ct,osl,rfl,lk,hcd⟩:=F.ex;exact .all (h kV doc pm an cdv ct)
theorem rV {st:Stmt} {f:Addr} {oc:Value} {od an:Option Addr} {osl:Array (Option Value)} {kV doc pm cdv ct:Value} (l:K.lookup f=some {oc,od,.func (PySem.W.fnOf x qual (dI st) (cJ st) (aB st) .none kV doc pm an cdv ct),osl})
  (c:PySem.W.codeIn K cdv qual=true) (k:PySem.W.keepIn K (.ref f)=true):Fun K x qual st f (PySem.W.fnOf x qual (dI st) (cJ st) (aB st) .none kV doc pm an cdv ct):={⟨oc,od,kV,doc,pm,an,cdv,ct,osl,rfl,l,c⟩,k}
end
theorem du {A:Around} {k:Nat} (hr:Room k A):A.units+1<cLine:=XB (Nat.add_le_add_left (by decide:1<=64) _) hr.units
section
variable {X:Cx}
theorem pv (i:Nat) {x:Str} {pos:Pos} (hN:X.N[i]?=some x:=by rfl) (hv:Vis X.env.scope x:=by first|exact Or.inl rfl|exact Or.inr (Or.inl rfl)|exact Or.inr (Or.inr rfl)) (hd:(x==("__debug__" : Str))=false:=by decide)
  (hcd:(x==("__classdict__" : Str))=false:=by decide):PE X (.Name x pos) (bV i):=Ae hN hv hd hcd
end
variable {A B c:Prop}
theorem di (h:B):if false=true then A else B:=by
 rw[QI Qn];exact h
theorem b9 (h:A):if true=true then A else B:=by
 rw[QL rfl];exact h
theorem eW [Decidable c] (h1:c->A) (h2:¬c->B):if c then A else B:=by
 by_cases h:c
 ·rw[QL h];exact h1 h
 rw[QI h];exact h2 h
def ao (H H':Hp):Prop:=∀b o,H b=some o->H' b=some o
theorem ao.refl (H:Hp):ao H H:=λ_ _ h=>h
theorem ao.trans {H H1 H2:Hp} (a:ao H H1) (b:ao H1 H2):ao H H2:=λc o h=>b c o (a c o h)
theorem ao.free {H H':Hp} (e:ao H H') {l:Addr} (h:H' l=Option.none):H l=Option.none:=by
 cases q:H l with
 | none=>rfl
 | some o =>
 rw[e l o q]at h;cases h
theorem ao.seq {K:PySem.W.Frag} {H H':Hp} {a:Addr} {xs:List V} (e:ao H H') (h:SqL K H a xs):SqL K H' a xs:=by
 rcases h with(h|⟨o,h⟩)|h
 ·exact .inl (.inl (e _ _ h))
 ·exact .inl (.inr {o,e _ _ h})
 exact .inr h
section
variable {κ:Type} [DecidableEq κ]
variable {kvs:List (κ × V)}
theorem vf {k:κ} (h:bh kvs k=none):¬k∈kvs.map (·.1):=by
 intro m;obtain⟨p,hp,e⟩:=Qj.mp m;have q:(kvs.any λkv=>decide (kv.1=k))=true:=List.any_eq_true.mpr {p,hp,Xc e};rw[c6,h]at q;exact absurd q (by simp)
theorem xt {k:κ} {v:V} (h:bh kvs k=some v):k∈kvs.map (·.1):=by
 have q:(kvs.any λkv=>decide (kv.1=k))=true:=by
  rw[c6,h]
  all_goals rfl
 obtain⟨p,hp,e⟩:=List.any_eq_true.mp q;exact Qj.mpr {p,hp,XI e}
end
section
variable {X:Cx}
theorem u7:dP X (.builtin "len") (λxs H Q=>∃a kvs,xs=[V.ref a]/\H a=some (.dK kvs)/\Q (.int kvs.length) H):=by
 intro pins s U H xs us Q I r h;obtain⟨a,kvs,rfl,ha,q⟩:=h;obtain⟨u,rfl,ru⟩:=d_ r;cases ru;exact D8 I (.inl ha) λt s' I'=>{.int kvs.length,H,I',⟨t,rfl⟩,q}
end
end L2
set_option maxHeartbeats 4000000
namespace L2
open PySem PySem.Spec PyProof.Rows
def wk:St->St->Prop
 | [],[]=>True
 | none::a,_::b=>wk a b
 | some x::a,y::b=>y=some x/\wk a b
 | _,_=>False
theorem ng:∀{a b:St},wk a b->a.length=b.length
 | [],[],_=>rfl
 | [],_::_,h=>h.elim
 | none::_,[],h=>h.elim
 | some _::_,[],h=>h.elim
 | none::a,_::b,h=>congrArg (·+1) (ng (a:=a) (b:=b) h)
 | some _::a,_::b,h=>congrArg (·+1) (ng (a:=a) (b:=b) h.2)
theorem nh:∀{a b:St},wk a b->∀(i:Nat) (v:V),a[i]?=some (some v)->b[i]?=some (some v)
 | [],[],_,i,v,e=>by simp at e
 | [],_::_,h,_,_,_=>h.elim
 | none::_,[],h,_,_,_=>h.elim
 | some _::_,[],h,_,_,_=>h.elim
 | none::a,y::b,h,0,v,e=>by simp at e
 | none::a,y::b,h,i+1,v,e=>by
  have:=nh (a:=a) (b:=b) h i v (by simpa using e);simpa using this
 | some x::a,y::b,h,0,v,e=>by
  have e':x=v:=by simpa using e
  subst e';rw[h.1];rfl
 | some x::a,y::b,h,i+1,v,e=>by
  have:=nh (a:=a) (b:=b) h.2 i v (by simpa using e);simpa using this
def dw (env:Env):List (Str × NameKind)->List (Str × Addr)->List (Str × Addr)
 | [],acc=>acc
 | (n,k)::r,acc=>dw env r (if (k==.free)=true then (n,(env.cells.lookup n).getD 0)::acc else acc)
theorem kY {env:Env}:∀(ns:List (Str × NameKind)) (acc:List (Str × Addr)),(∀y∈ns,y.2=.free->∃c,env.cells.lookup y.1=some c) ->
  (forIn ns acc (fun x r=>match x with
   | (name,kind)=>if (kind==NameKind.free)=true then (do let c <-cellOf env name;pure (ForInStep.yield ((name,c)::r))) else pure (ForInStep.yield r)):Sem (List (Str × Addr)))=pure (dw env ns acc)
 | [],acc,_=>rfl
 | (n,k)::r,acc,h=>by
  rw[List.forIn_cons];have ih:=λa=>kY (env:=env) r a λy hy=>h y (Qx _ hy);by_cases hk:(k==NameKind.free)=true
  ·obtain⟨c,hc⟩:=h (n,k) Xj (by simpa using hk);have e1:cellOf env n=pure c:=by unfold cellOf;rw[hc]
   simp only[hk,if_true,e1,pure_bind];unfold dw;simp only[hk,if_true,hc,Option.getD_some];exact ih _
  simp only[hk,if_false,pure_bind];unfold dw;simp only[hk,if_false];exact ih _
variable {env:Env} {scope:Scope}
theorem kZ (h:∀y∈scope.names,y.2=.free->∃c,env.cells.lookup y.1=some c):closureFor scope env=pure (dw env scope.names []):=by
 have e:=kY scope.names [] h;unfold closureFor
 first
  | (rw[show (forIn scope.names ([]:List (Str × Addr)) _:Sem (List (Str × Addr)))=pure (dw env scope.names []) from e];rfl)
  | (simp only[bind_pure];exact e)
  | exact(congrArg (· >>= pure) e)
theorem iU {env:Env}:∀(ns:List (Str × NameKind)) (acc:List (Str × Addr)) (n:Str) (a:Addr),(n,a)∈dw env ns acc->(n,a)∈acc\/(a=(env.cells.lookup n).getD 0/\(n,NameKind.free)∈ns)
 | [],acc,n,a,h=>.inl h
 | (m,k)::r,acc,n,a,h=>by
  unfold dw at h;by_cases hk:(k==NameKind.free)=true
  ·rw[QL hk]at h;rcases iU r _ n a h with q|⟨q1,q2⟩
   ·rcases QO.mp q with q|q
    ·cases q;have hk':k=.free:=by simpa using hk
     subst hk';exact .inr ⟨rfl,Xj⟩
    exact .inl q
   exact .inr {q1,Qx _ q2}
  rw[QI hk]at h;rcases iU r _ n a h with q|⟨q1,q2⟩
  ·exact .inl q
  exact .inr {q1,Qx _ q2}
theorem mV {env:Env}:∀(ns:List (Str × NameKind)) (acc:List (Str × Addr)) (p:Str × Addr),p∈acc->p∈dw env ns acc
 | [],_,_,h=>h
 | (m,k)::r,acc,p,h=>by
  unfold dw;refine mV r _ p ?_
  split
  ·exact Qx _ h
  exact h
theorem kX {env:Env}:∀(ns:List (Str × NameKind)) (acc:List (Str × Addr)) (n:Str),(n,NameKind.free)∈ns->(n,(env.cells.lookup n).getD 0)∈dw env ns acc
 | [],_,_,h=>nomatch h
 | (m,k)::r,acc,n,h=>by
  unfold dw;rcases QO.mp h with q|q
  ·cases q;refine mV r _ _ ?_;rw[QL (by rfl)];exact Xj
  exact kX r _ n q
theorem eC {α β:Type} [BEq α] [LawfulBEq α]:∀{l:List (α × β)} {x:α} {y:β},l.lookup x=some y->(x,y)∈l
 | [],_,_,h=>by simp at h
 | (a,b)::r,x,y,h=>by
  rw[Q6]at h;by_cases e:(x==a)=true
  ·rw[e]at h;have e':x=a:=by simpa using e
   have h':b=y:=by simpa using h
   subst e' h';exact Xj
  have e2:(x==a)=false:=by simpa using e
  rw[e2]at h;exact Qx _ (eC (by simpa using h))
theorem gC {α β:Type} [BEq α] [LawfulBEq α]:∀{l:List (α × β)} {x:α} {y:β},(x,y)∈l->∃z,l.lookup x=some z
 | [],_,_,h=>nomatch h
 | (a,b)::r,x,y,h=>by
  rw[Q6];by_cases e:(x==a)=true
  ·rw[e];exact⟨b,rfl⟩
  have e2:(x==a)=false:=by simpa using e
  rw[e2];rcases QO.mp h with q|q
  ·cases q;simp at e
  exact gC q
variable {c it e T a p:Addr} {x z:Str} {ns:List (Str × NameKind)}
theorem xc (h:(dw env ns []).lookup x=some c) (hall:∀y∈ns,y.2=.free->∃c,env.cells.lookup y.1=some c):env.cells.lookup x=some c:=by
 rcases iU ns [] x c (eC h) with q|⟨q1,q2⟩
 ·nomatch q
 obtain⟨c',hc⟩:=hall _ q2 rfl;have hc':env.cells.lookup x=some c':=hc;rw[hc']at q1;rw[hc',q1];rfl
theorem tP {env:Env} (h:(x,NameKind.free)∈ns):∃c,(dw env ns []).lookup x=some c:=gC (kX ns [] x h)
noncomputable def Cx.block (X:Cx) (N:List Str) (scope:Scope) (C:Addr) (s:Shared) (H:Hp) (fp:F4):Cx :=
 { X with N:=N,s₀:=s,H₀:=H,env:=compEnvC scope (dw X.env scope.names []) C X.env,outer:=X.stack,ex:=fp,fn:=λ_=>false,pn:=[],xe:=λ_ _=>False }
theorem nP {k:NameKind} (h:(relabel scope env).names.lookup x=some k):∃k',scope.names.lookup x=some k'/\(k=k'\/(k'=.free/\k=.cell)):=by
 unfold relabel at h;generalize scope.names=ns at h
 induction ns with
 | nil=>simp at h
 | cons p r ih =>
 obtain⟨n,k0⟩:=p;rw[QM]at h;by_cases e:(x==n)=true
 ·refine{k0,by rw[Q6,e],?_};by_cases c:(k0==NameKind.free&&env.scope.kind==.function&&env.kindOf n==some .cell)=true
  ·have h1:some NameKind.cell=some k:=by
    have h2:=h;simp only[c,if_true]at h2;rw[Q6,e]at h2;exact h2
   have h3:k0=.free:=by
    simp only[Xm,beq_iff_eq]at c;exact c.1.1
   exact .inr {h3,(Q0 h1).symm}
  have h1:some k0=some k:=by
   have h2:=h;simp only[c,QU,if_false]at h2;rw[Q6,e]at h2;exact h2
  exact .inl (Q0 h1).symm
 have e2:(x==n)=false:=by simpa using e
 rw[Q6,e2];refine ih ?_;by_cases c:(k0==NameKind.free&&env.scope.kind==.function&&env.kindOf n==some .cell)=true
 ·have h2:=h;simp only[c,if_true]at h2;rw[Q6,e2]at h2;exact h2
 have h2:=h;simp only[c,QU,if_false]at h2;rw[Q6,e2]at h2;exact h2
theorem nQ (h:scope.names.lookup x=some .free):(relabel scope env).names.lookup x=some .cell\/(relabel scope env).names.lookup x=some .free:=by
 unfold relabel;show List.lookup x (scope.names.map _)=_\/List.lookup x (scope.names.map _)=_;generalize scope.names=ns at h
 induction ns with
 | nil=>simp at h
 | cons p r ih =>
 obtain⟨n,k0⟩:=p;rw[QM];by_cases e:(x==n)=true
 ·rw[Q6,e]at h;have h':k0=.free:=by simpa using h
  subst h';by_cases c:(NameKind.free==NameKind.free&&env.scope.kind==.function&&env.kindOf n==some .cell)=true
  ·left
   simp only[c,if_true];rw[Q6,e]
  right
  simp only[c,QU,if_false];rw[Q6,e]
 have e2:(x==n)=false:=by simpa using e
 rw[Q6,e2]at h;have h3:=ih h;by_cases c:(k0==NameKind.free&&env.scope.kind==.function&&env.kindOf n==some .cell)=true
 ·simp only[c,if_true];rw[Q6,e2];exact h3
 simp only[c,QU,if_false];rw[Q6,e2];exact h3
def yE (X:Cx) (ifs:List Expr) (t:TT):Prop :=
 ∀(pins:F2) (s:Shared) (U:St) (H:Hp) (Q:Bool->Hp->Prop),Inv X pins U H s->t U H Q ->
  wpAny (model X.prog X.w) X.A (forIn ifs true λc r=>if r=true then do let ok <-isTrue c X.env (eval c X.env);pure (ForInStep.yield ok) else pure (ForInStep.yield r)) (TP X pins U Q) X.xe s
def gL:TT:=λ_ H Q=>Q true H
theorem ik {X:Cx}:yE X [] gL:=λ_ _ _ H _ I h=>wpAny_tests_nil ⟨H,I,h⟩
theorem ki {X:Cx} {c:Expr} {t:TT} (h:PT X c t):yE X [c] t:=λpins s U H Q I hw=>wpAny_tests_one (h pins s U H Q I hw)
variable {pos px:Pos} {w:World} {prog P:Program}
theorem iz {A:Around} {R:Result->Shared->Prop} {s:Shared} {elt target iter:Expr} {ifs:List Expr} {it acc:Value} (I:Nat->Shared->Prop)
  (turn:∀n s,I n s->wpAny (model prog w) A (pyNext it) (fun r s1=>match r with
   | none=>R (.ok .next) s1
   | some v=>wpAny (model prog w) A (letOwnedTupleGo target it v) (λ_ s2=>wpAny (model prog w) A (assign target env v) (λ_ s3 =>
     wpAny (model prog w) A (forIn ifs true λc r=>if r=true then do let ok <-isTrue c env (eval c env);pure (ForInStep.yield ok) else pure (ForInStep.yield r)) (λok s4 =>
      if ok=true then wpAny (model prog w) A (eval elt env) (λx s5 =>
       wpAny (model prog w) A (call (.builtin "list.append") [acc,x]) (λ_ s6=>∃m,m<n/\I m s6) (λ_ _=>False) s5) (λ_ _=>False) s4
      else ∃m,m<n/\I m s4) (λ_ _=>False) s3) (λ_ _=>False) s2) (λ_ _=>False) s1) (λ_ _=>False) s)
  (n:Nat) (h:I n s):codeAny (model prog w) A (.compLoop (.ListComp elt [{target,iter,ifs,0}] scope pos) 0 it acc env) R s:=by
 refine codeAny_loop rfl I (λn s hI=>?_) n h;show wpAny _ A ((compTurn (.ListComp elt [{target,iter,ifs,0}] scope pos) 0 it acc env).onRaise (λx=>do noteFrame x env;theTreesLotGoes x)) _ _ s;refine wpAny_noted ?_;rw[compTurn_list];have no:∀{E:F1},∀e s',(λ(_:Value) (_:Shared)=>False) e s'->E e s':=λ_ _ z=>False.elim z;refine Qb (wpAny_standAt (Qb (Xp (turn n s hI) (λr s1 h1=>?_) no)))
 cases r with
 | none=>exact Qf h1
 | some v =>
 refine Qb (Xp h1 (λ_ s2 h2=>?_) no);refine Qb (Xp h2 (λ_ s3 h3=>Qb (Xp h3 (λok s4 h4=>?_) no)) no)
 cases ok with
 | false=>exact Qf ⟨rfl,h4⟩
 | true =>
 exact Qb (Qb (Xp h4 (λx s5 h5=>Qb (Xp h5 (λ_ s6 h6=>Qf (Qf ⟨rfl,h6⟩)) no)) no))
def ca (tgs:List Str) (cap:List (Str × Nat)) (U:St):St:=tgs.map (λ_=>none)++cap.map λc=>(U[c.2]?).join
def iZ (wi:TI) (g:TG) (tt:TT) (te:TE) (f:St->St):TE:=λU H Q=>wi U H λJ H1=>∀D,H1 D=none->∃W:Nat->Nat->Hp->List V->Prop,(∃m,W 0 m (upd H1 D (.lst [])) []) /\
 ∀i m H ys,W i m H ys->H D=some (.lst ys)/\((J.stop i H/\Q (.ref D) H)\/(J.go i H/\∀x H',J.yld i H x H'->g x (f U) H' λσ2 H2=>wk (f U) σ2/\tt σ2 H2 λb H3 =>
  if b=true then te σ2 H3 λv H4=>H4 D=some (.lst ys)/\ys.length<sizeLine/\∃m',m'<m/\W (i+1) m' (upd H4 D (.lst (ys++[v]))) (ys++[v])
  else ∃m',m'<m/\W (i+1) m' H3 ys))
structure BlockOk (X:Cx) (scope:Scope) (tgs:List Str) (cap:List (Str × Nat)):Prop where
 kind:scope.kind=.function
 nocell:(scope.names.all λy=>!(y.2==NameKind.cell))=true
 names:(scope.names.all λy=>!(y.2==NameKind.local) || (scope.names.lookup y.1==some .local))=true
 free:(scope.names.all λy=>!(y.2==NameKind.free) || (X.env.scope.names.lookup y.1==some .cell) || (X.env.scope.names.lookup y.1==some .free))=true
 caps:(cap.all λc=>decide (X.N[c.2]?=some c.1)&&(scope.names.lookup c.1==some .free)&&(decide (X.env.scope.names.lookup c.1=some .cell) || decide (X.env.scope.names.lookup c.1=some .free)))=true
 tgl:(tgs.all λx=>(scope.names.lookup x==some .local))=true
section
variable {X:Cx} {scope:Scope} {tgs:List Str} {cap:List (Str × Nat)}
theorem BlockOk.cellAt (B:BlockOk X scope tgs cap) (ok:X.Ok):∀y∈scope.names,y.2=.free->∃c,X.env.cells.lookup y.1=some c:=λy hy hk=>by
 have q:=QN.mp B.free y hy;rw[hk]at q;refine ok.has y.1 ?_;simp only[beq_self_eq_true,Bool.not_true,Bool.false_or,Bool.or_eq_true,beq_iff_eq]at q;exact q
theorem BlockOk.noc (B:BlockOk X scope tgs cap):∀y∈scope.names,y.2≠.cell:=λy hy hk=>by
 have q:=QN.mp B.nocell y hy;rw[hk]at q;simp at q
theorem BlockOk.locs (B:BlockOk X scope tgs cap):∀y∈scope.names,y.2=.local->scope.names.lookup y.1=some .local:=λy hy hk=>by
 have q:=QN.mp B.names y hy;rw[hk]at q;simpa using q
variable {pins:F2}
theorem Inv.enter {U:St} {H:Hp} {s:Shared} {h1:Heap} {tk:Nat} {fp:F4} (B:BlockOk X scope tgs cap) (I:Inv X pins U H s) (hfp:∀b∈fp,hV X pins H b) (hlt:∀b∈fp,b<s.heap.objs.size)
  (hns:h1.Ns s.heap.objs.size (λ_=>none)) (old:∀b o,s.heap.get? b=some o->h1.get? b=some o) :
  Inv (X.block (tgs++cap.map (·.1)) scope s.heap.objs.size s H fp) [] (ca tgs cap U) H { s with heap:=h1,toks:=tk }:=by
 have cellsIn:∀x c,(dw X.env scope.names []).lookup x=some c->X.env.cells.lookup x=some c:=λx c e=>xc e (B.cellAt I.ok)
 have kindIn:∀x,((relabel scope X.env).names.lookup x=some .cell\/(relabel scope X.env).names.lookup x=some .free)->(x,NameKind.free)∈scope.names:=λx hx=>by
  have go:∀k,(relabel scope X.env).names.lookup x=some k->(k=.cell\/k=.free)->(x,NameKind.free)∈scope.names:=λk hk hc=>by
   obtain⟨k',e1,e2⟩:=nP hk;have m:=eC e1;rcases e2 with e2|⟨e2,_⟩
   ·subst e2;rcases hc with z|z
    ·exact absurd z (B.noc _ m)
    subst z;exact m
   subst e2;exact m
  rcases hx with h|h
  ·exact go _ h (.inl rfl)
  exact go _ h (.inr rfl)
 have nocl:∀x c,X.env.cells.lookup x=some c->c≠s.heap.objs.size:=λx c e=>by
  obtain⟨v,q⟩:=I.cell x c e;exact Qz q.lt
 refine{ {I.ok.mod,?_,I.ok.glob,I.ok.blt,Qh _,λx y c e1 e2=>I.ok.inj x y c (cellsIn x c e1) (cellsIn y c e2),λx hx=>?_,λx c hf _=>absurd (show false=true from hf) Qn,I.ok.hd,I.ok.frames,.inl rfl,
  λb hb=>{Qz (hlt b hb),λx c e=>?_},I.bs,QX I.ok.bsz I.sz,λb o e hb=>?_,λb hb hf=>?_,I.stack,I.stkFree},
  rfl,I.bare,Un.kept old,{_,hns,λi x v h2 h3 h4=>?_},λx c e=>?_,?_,λx c e=>I.freeC x c (cellsIn x c e),λp hp=>absurd (show p∈([]:F2) from hp) (by simp),I.hok.kept old,?_}
 ·exact B.kind
 ·exact tP (kindIn x hx)
 ·exact(hfp b hb).2.2.2.2.1 x c (cellsIn x c e)
 ·-- no object of the base is an iterator of ours
  rcases(hfp b hb).2.2.2.1 with z|z
  ·exact I.ok.noex b o e z
  have q:=I.ok.bs b o e;exact absurd (QK (Ql q.1) z) (Nat.lt_irrefl _)
 ·have hf':b∈frs X.stack:=hf;rcases QO.mp (I.stkSub b hf') with z|z
  ·exact(hfp b hb).2.1 z
  exact(hfp b hb).2.2.1 z
 ·-- a name that is known: one of the captured ones
  have hi:tgs.length<=i:=by
   by_cases hl:i<tgs.length
   ·exfalso;unfold ca at h3;rw[QF (by simpa using hl),Qi]at h3
    cases e:tgs[i]? with
    | none=>rw[e]at h3;cases h3
    | some z=>rw[e]at h3;cases h3
   exact om2 hl
  unfold ca at h3;rw[QH (by simpa using hi),Qa,Qi]at h3;have h2':(tgs++cap.map (·.1))[i]?=some x:=h2;rw[QH hi,Qi]at h2'
  cases e:cap[i-tgs.length]? with
  | none=>rw[e]at h2';cases h2'
  | some c =>
  rw[e]at h2' h3;have hx:c.1=x:=by simpa using h2'
  have hv:(U[c.2]?).join=some v:=by simpa using h3
  have hm:c∈cap:=Qg e;have q:=QN.mp B.caps c hm;simp only[Xm,decide_eq_true_eq,beq_iff_eq,Bool.or_eq_true]at q;obtain⟨⟨q1,q2⟩,q3⟩:=q
  have hσ:U[c.2]?=some (some v):=by
   cases z:U[c.2]? with
   | none=>rw[z]at hv;cases hv
   | some o =>
   rw[z]at hv;have:o=some v:=by simpa using hv
   rw[this]
  obtain⟨m,_,hl⟩:=I.loc
  obtain⟨u,r,l⟩:=hl c.2 c.1 v q1 hσ (by
   rcases q3 with z|z
   ·exact .inr (.inl z)
   exact .inr (.inr z))
  subst hx;refine{u,r,.inr {nQ q2,?_} }
  have nl:¬X.env.kindOf c.1=some .local:=λz=>by
   rcases q3 with y|y
   ·have:X.env.kindOf c.1=some .cell:=y;rw[this]at z;cases z
   have:X.env.kindOf c.1=some .free:=y;rw[this]at z;cases z
  rcases l with⟨l1,_⟩|⟨_,d,l2,l3⟩
  ·exact absurd l1 nl
  obtain⟨d',e'⟩:=tP (env:=X.env) (eC q2);have:d=d':=Q0 (l2.symm.trans (cellsIn _ _ e'));subst this;obtain⟨oc,ho,hd⟩:=l3;exact{d,e',oc,old d oc ho,hd}
 ·obtain⟨v,oc,ho,hd⟩:=I.cell x c (cellsIn x c e);exact{v,oc,old c oc ho,hd}
 ·exact I.hok.fresh (Qh _)
 unfold ca;show _=(tgs++cap.map (·.1)).length;simp
theorem Inv.leave {U σ':St} {H H':Hp} {s s':Shared} {h2:Heap} {fp:F4} {N:List Str} (I:Inv X pins U H s) (hfp:∀b∈fp,hV X pins H b)
  (J:Inv (X.block N scope s.heap.objs.size s H fp) [] σ' H' s') (hs:Heap.SameBut s.heap.objs.size s'.heap h2):Inv X pins U H' { s' with heap:=h2 }:=by
 have u:Un (frs X.stack) fp H H' s.heap s'.heap:=J.base;have ne:∀b o,s.heap.get? b=some o->b≠s.heap.objs.size:=λb o e=>Qz (Ql e);have hf:H' s.heap.objs.size=none:=J.free;have k:∀b o,b≠s.heap.objs.size->s'.heap.get? b=some o->h2.get? b=some o:=λb o hb e=>(hs.2 b hb).trans e
 have u2:Un (frs X.stack) fp H H' s.heap h2 :=
  {λb o e n h1 h3=>k b o (ne b o e) (u.keep b o e n h1 h3),λb o e n h1 h3=>let ⟨sl,q⟩:=u.slot b o e n h1 h3;{sl,k b _ (ne b o e) q},u.free,λb o e h3=>let ⟨o',q⟩:=u.there b o e h3;{o',k b o' (ne b o e) q},u.tups,u.frzs,u.tbls}
 have hok:HOk X.prog X.w H' h2:=λb ob e=>(J.hok b ob e).stay (λc v hc q=>k c v (by
  rcases hc with z|z
  ·subst z;intro y;rw[y,hf]at e;cases e
  intro y
  rw[y,hf]at z;cases z) q) (λ_ q=>q) λ_ _ q=>q
 exact Inv.call' I (s':={ s' with heap:=h2 }) J.os u2 hok J.bare λb hb=>by
  obtain⟨f0,f1,f2,f3,f4,f5⟩:=hfp b hb;exact⟨f3,f1,f4,f5⟩
theorem mE {elt tg iter:Expr} {ifs:List Expr} {pos:Pos} {wi:TI} {g:TG} {tt:TT} {te:TE} (hc:X.calm=true) (B:BlockOk X scope tgs cap) (hi:PI X tg iter wi)
  (hg:∀C s H fp,PG (X.block (tgs++cap.map (·.1)) scope C s H fp) tg g) (ht:∀C s H fp,yE (X.block (tgs++cap.map (·.1)) scope C s H fp) ifs tt) (he:∀C s H fp,PE (X.block (tgs++cap.map (·.1)) scope C s H fp) elt te)
  (hs:∀x,foldedSetIterable iter X.env x=pure x:=by intro _;rfl):PE X (.ListComp elt [{tg,iter,ifs,0}] scope pos) (iZ wi g tt te (ca tgs cap)):=by
 intro pins s U H Q I h;rw[eval_ListComp];refine wpAny_comprehension_free (use:=none) rfl hs (kZ (B.cellAt I.ok)) B.kind B.locs (thn (hi pins s U H _ I h) λv s1 h1=>thn h1 λitv s2 h2=>?_);obtain⟨it,fp,tn,J,H2,e,I2,T,st2,f2,q⟩:=h2;subst e;have lt2:∀b∈fp,b<s2.heap.objs.size:=λb hb=>let ⟨o,e,_⟩:=T.obj _ _ st2 b hb;Ql e;have hD:H2 s2.heap.objs.size=none:=I2.hok.fresh (Qh _);obtain⟨W,⟨m0,w0⟩,turn⟩:=q s2.heap.objs.size hD;refine wpAny_newObj_type ?_;have I3:Inv X pins U (upd H2 s2.heap.objs.size (.lst [])) { s2 with heap:=s2.heap.push { cls:=.type "list", dict:=none,data:=.seq ([]:List Value).toArray } }:=I2.lnew (t':=s2.toks) (ys:=[]) (its:=[]) .nil (QG _);have st3:tn 0 (s2.heap.push { cls:=.type "list", dict:=none,data:=.seq ([]:List Value).toArray }):=T.keep _ _ _ st2 λb _ o e=>Qd _ e;have nD:∀b∈fp,b≠s2.heap.objs.size:=λb hb=>Qz (lt2 b hb);have f3:∀b∈fp,hV X pins (upd H2 s2.heap.objs.size (.lst [])) b:=λb hb=>{by rw[am (nD b hb)];exact(f2 b hb).1,(f2 b hb).2};generalize hs3:({ s2 with heap:=s2.heap.push { cls:=.type "list", dict:=none,data:=.seq ([]:List Value).toArray } }:Shared)=s3 at I3 st3 ⊢;have st3':tn 0 s3.heap:=by rw[<-hs3];exact st3
 have lt3:∀b∈fp,b<s3.heap.objs.size:=λb hb=>let ⟨o,e,_⟩:=T.obj _ _ st3' b hb;Ql e;generalize hH3:upd H2 s2.heap.objs.size (.lst [])=H3 at I3 f3 w0;generalize s2.heap.objs.size=D at *;refine wpAny_newFunctionEnv B.noc (by intro y hy;simp at hy) (λh1 hns hsb=>?_) B.kind;have old:∀b o,s3.heap.get? b=some o->h1.get? b=some o:=λb o e=>hsb.extBut b o (Qz (Ql e)) (Qd _ e);have I4:=Inv.enter (tk:=s3.toks+([]:List (Str × Value)).length) (h1:=h1) B I3 f3 lt3 hns old;have st4:tn 0 h1:=T.keep _ _ _ st3' λb _ o e=>old b o e
 have fpB:∀{H':Hp},(∀b∈fp,H' b=none)->∀b∈fp,hV (X.block (tgs++cap.map (·.1)) scope s3.heap.objs.size s3 H3 fp) [] H' b:=λ{H'} hn b hb =>
  {hn b hb,Qz (lt3 b hb),I4.ok.exfs b hb,.inl hb,λx c e=>(I4.ok.exf b hb).2 x c e,λp hp=>absurd (show p∈([]:F2) from hp) (by simp)}
 have loop:codeAny (model X.prog X.w) X.A (.compLoop (.ListComp elt [{tg,iter,ifs,0}] scope pos) 0 (.ref it) (.ref D) (compEnvC scope (dw X.env scope.names []) s3.heap.objs.size X.env))
   (compPost (model X.prog X.w) X.A X.xe none (EP X pins U Q) (.ref D) s3.heap.objs.size) { s3 with heap:=h1,toks:=s3.toks+([]:List (Str × Value)).length }:=by
  refine iz (λn s'=>∃i H' ys,Inv (X.block (tgs++cap.map (·.1)) scope s3.heap.objs.size s3 H3 fp) [] (ca tgs cap U) H' s'/\tn i s'.heap/\(∀b∈fp,H' b=none)/\W i n H' ys) ?_ m0 {0,H3,[],I4,st4,λb hb=>(f3 b hb).1,w0};rintro n s5 ⟨i,H5,ys,I5,st5,fr5,w5⟩;obtain⟨hl,ht5⟩:=turn i n H5 ys w5;rcases ht5 with⟨stop,qd⟩|⟨go,step⟩
  ·refine thn (T.done (X.block (tgs++cap.map (·.1)) scope s3.heap.objs.size s3 H3 fp) rfl rfl rfl hc i [] s5 _ H5 _ I5 (fpB fr5) st5 stop) λr s6 ⟨hr,I6⟩=>?_;subst hr;obtain⟨m6,n6,_⟩:=I6.loc;exact{m6,n6,λh' hs'=>{.ref D,H5,Inv.leave I3 f3 I6 hs',rfl,qd} }
  refine thn (T.item (X.block (tgs++cap.map (·.1)) scope s3.heap.objs.size s3 H3 fp) rfl rfl rfl hc i [] s5 _ H5 _ I5 (fpB fr5) st5 go) λr s6 ⟨u,hr,h6⟩=>?_;subst hr;refine thn h6 λ_ s7 ⟨x,H7,I7,r7,y7,st7,fr7⟩=>?_;have I7':=I7.pinned (fpB fr7) (T.obj _ _ st7)
  have again:∀{σ8:St} {H8:Hp} {s8:Shared} {ys8:List V},Inv (X.block (tgs++cap.map (·.1)) scope s3.heap.objs.size s3 H3 fp) ([]++iM fp s7.heap) σ8 H8 s8->wk (ca tgs cap U) σ8->(∃m',m'<n/\W (i+1) m' H8 ys8) ->
    ∃m,m<n/\∃i H' ys,Inv (X.block (tgs++cap.map (·.1)) scope s3.heap.objs.size s3 H3 fp) [] (ca tgs cap U) H' s8/\tn i s8.heap/\(∀b∈fp,H' b=none)/\W i m H' ys:=λ{σ8 H8 s8 ys8} I8 k8 ⟨m',hm,w8⟩=>by
   refine{m',hm,i+1,H8,ys8,I8.unpinned.weak (ng k8) (nh k8),T.keep _ _ _ st7 λb hb o e=>(I8.pin (b,o) (QR _ (QR _ (dC hb e)))).1,λb hb=>?_,w8};obtain⟨o,e,d⟩:=T.obj _ _ st7 b hb;exact(I8.pin (b,o) (QR _ (QR _ (dC hb e)))).2.1
  refine thn (hg _ _ _ _ _ s7 _ H7 x u _ I7' r7 (step x H7 y7)) λ_ s8 ⟨σ8,H8,I8,k8,q8⟩=>?_;refine thn (ht _ _ _ _ _ s8 σ8 H8 _ I8 q8) λok s9 ⟨H9,I9,q9⟩=>?_
  cases ok with
  | false =>
   rw[QI Qn]at q9 ⊢;exact again I9 k8 q9
  | true =>
  rw[QL rfl]at q9 ⊢;refine thn (he _ _ _ _ _ s9 σ8 H9 _ I9 q9) λy sA ⟨yv,HA,IA,rA,hA,zA,qA⟩=>?_;exact thn (a7 _ sA σ8 HA (.ref D) [yv] (.ref D) [y] (λv H'=>v=.non/\∃m',m'<n/\W (i+1) m' H' (ys++[yv])) IA rfl (.cons rA .nil) ⟨D,ys,yv,rfl,rfl,hA,zA,rfl,qA⟩) λ_ sB ⟨_,HB,IB,_,_,qB⟩=>again IB k8 qB
 exact codeAny_compStart_list loop (T.self _ 0 _ _ _ st4 loop)
theorem dq {X:Cx} {scope:Scope} {elt iter:Expr} {p pos:Pos} {wi:TI} {te:TE} (x:Str) (cap:List (Str × Nat)) (hi:PI X (.Name x p) iter wi) (he:∀C s H fp,PE (X.block ([x]++cap.map (·.1)) scope C s H fp) elt te) (hc:X.calm=true:=by rfl) (B:BlockOk X scope [x] cap:=by exact⟨rfl,rfl,rfl,rfl,rfl,rfl⟩) (hN:([x]++cap.map (·.1)).Nodup:=by decide +kernel) (hg:([x]++cap.map (·.1)).Nodup->∀C s H fp,PG (X.block ([x]++cap.map (·.1)) scope C s H fp) (.Name x p) (eE 0):=by intro h _ _ _ _;exact dH (i:=0) h rfl (by z_go)) (hs:∀x,foldedSetIterable iter X.env x=pure x:=by intro _;rfl):PE X (.ListComp elt [{.Name x p,iter,[],0}] scope pos) (iZ wi (eE 0) gL te (ca [x] cap)):=mE hc B hi (hg hN) (λ_ _ _ _=>ik) he hs
end
def Itf (n:Nat) (f:Nat->V):It:={λi _=>i<n,λi H x H'=>H'=H/\x=f i,λi _=>i=n}
variable {n i:Nat} {K:PySem.W.Frag}
theorem jI {f:Nat->V} {Pv:Nat->Value->Prop} {St:Nat->Heap->Prop}
  (W:∀A:Around,A.handled=none->Walks P w A it [it] [it] n Pv St) (hP:∀i v,Pv i v->aZ (f i) v) (hobj:∀i h,St i h->∃o,h.get? it=some o/\∀v,o.data≠.cell v)
  (hfr:∀i h h',St i h->(∀o,h.get? it=some o->h'.get? it=some o)->St i h')
  (hself:∀(A:Around) (i:Nat) (s:Shared) (Q:F1) (E:F1),St i s.heap->Q (.ref it) s->wpAny (model P w) A (pyIter (.ref it)) Q E s) :
  Turn P w K (.Name x px) (Itf n f) [it] it St where
 mem:=by simp
 obj:=λi h st b hb=>by
  have e:b=it:=by simpa using hb
  subst e;exact hobj i h st
 keep:=λi h h' st k=>hfr i h h' st λo e=>k it (by simp) o e
 item:=by
  intro X hP' hw hK hc i pins s U H E I hf st hg;subst hP' hw hK;obtain⟨f0,f1,f2,f3,f4,f5⟩:=hf it (by simp);refine(W X.A (I.ok.hd hc)).item i s _ _ hg st λv h' tk hv st' kk=>?_;have I1:Inv X pins U H { s with heap:=h',toks:=tk }:=I.turned (λb o hb e=>kk b o (by simpa using hb) e) f0 f1 f3 f4 f5;refine{v,rfl,wpAny_of_eq (a:=()) (by rfl) {f i,H,I1,hP i v hv,⟨rfl,rfl⟩,st',λb hb=>(hf b hb).1} }
 done:=by
  intro X hP' hw hK hc i pins s U H E I hf st hg;subst hP' hw hK;obtain⟨f0,f1,f2,f3,f4,f5⟩:=hf it (by simp);have e:i=n:=hg;subst e;exact(W X.A (I.ok.hd hc)).done s _ _ st λh' tk kk=>{rfl,I.turned (λb o hb e=>kk b o (by simpa using hb) e) f0 f1 f3 f4 f5}
 self:=λA i s Q E st h=>hself A i s Q E st h
def fI (z:Str) (i:Nat):V:=.str {#[z.cps.getD i 0]}
theorem jU {v:Value} (h:SignAt z i v):aZ (fI z i) v:=by
 obtain⟨c,u,h1,h2⟩:=h;subst h2;refine{u,?_};have:z.cps.getD i 0=c:=by rw[Array.getD_eq_getD_getElem?,h1];rfl
 rw[this]
theorem vh {t:Tok} {ty:String} (hty:ty = "str_ascii_iterator" \/ ty = "str_iterator") :
  Turn P w K (.Name x px) (Itf z.cps.size (fI z)) [it] it (λi h=>h.IsStrIter it ty z t i):=by
 rcases hty with e|e
 ·subst e
  exact jI (λA hA=>Walks.strAscii hA it z t) (λi v h=>jU h) (λi h st=>let ⟨o,e,_,d⟩:=st;{o,e,λv q=>by rw[d]at q;cases q})
   (λi h h' st k=>let ⟨o,e,r⟩:=st;{o,k o e,r}) λA i s Q E st q=>wpAny_pyIter_striter_ascii st q
 subst e
 exact jI (λA hA=>Walks.strWide hA it z t) (λi v h=>jU h) (λi h st=>let ⟨o,e,_,d⟩:=st;{o,e,λv q=>by rw[d]at q;cases q})
  (λi h h' st k=>let ⟨o,e,r⟩:=st;{o,k o e,r}) λA i s Q E st q=>wpAny_pyIter_striter_wide st q
section
variable {X:Cx} {x:Str} {px:Pos}
def D1 (tl:TE):TI:=λU H R=>tl U H λv H1=>∃z:Str,v=.str z/\R (Itf z.cps.size (fI z)) H1
theorem Ad {l:Expr} {tl:TE} (hl:PE X l tl):PI X (.Name x px) l (D1 tl):=by
 intro pins s U H R I h;refine thn (hl pins s U H _ I h) λv s1 ⟨y,H1,I1,r1,q1⟩=>?_;obtain⟨z,e,q⟩:=q1;subst e;obtain⟨t,e⟩:=r1;subst e
 have fin:∀ty:String,(ty = "str_ascii_iterator" \/ ty = "str_iterator")->PIE X pins U (.Name x px) R (.ref s1.heap.objs.size) { s1 with heap:=s1.heap.push { cls:=.type ty,data:=.fields #[.str z t,.int 0 0] } }:=λty hty=>by
  refine{s1.heap.objs.size,[s1.heap.objs.size],_,_,H1,rfl,I1.kept (t':=s1.toks) λb o e=>Qd _ e,vh (t:=t) hty,{_,Qq _ rfl,rfl,rfl},λb hb=>?_,q};have e:b=s1.heap.objs.size:=by simpa using hb
  subst e;exact I1.fpOk (Qh _) (I1.hok.fresh (Qh _))
 cases ha:z.cps.all (·<128) with
 | false=>exact wpAny_pyIter_wide ha (fin _ (.inr rfl))
 | true=>exact wpAny_pyIter_ascii ha (fin _ (.inl rfl))
end
section
variable {X:Cx}
def Bl:V->Option Int->Option Int->Hp->VK->Prop:=λx lo hi H Q=>∃z:Str,x=.str z/\z.length<=sizeLine/\Q (.str (Txt.slice z lo hi)) H
theorem eR:SlR X Bl:=by
 intro pins s U H x v vl vu lo hi sl Q I rx hs pl pu h;obtain⟨z,e,hz,q⟩:=h;subst e;obtain⟨t,e⟩:=rx;subst e;refine{"str", _,F.slot_str_getitem.lookup,typeIs_str _ _ _,?_};have fin:∀(t':Tok) (k:Nat),EP X pins U Q (.str (Txt.slice z lo hi) t') { s with toks:=k }:=λt' k=>{.str _,H,I.tok k,⟨t',rfl⟩,q}
 cases pl with
 | none =>
  cases pu with
  | none=>exact wpAny_getItem_str_slice (l:=none) (u:=none) (st:=none) hs rfl (post_val_or_str {QX (XO z _ _) hz,fin})
  | int j uj=>exact wpAny_getItem_str_slice (l:=none) (u:=some (j,uj)) (st:=none) hs rfl (post_val_or_str {QX (XO z _ _) hz,fin})
 | int i ui =>
 cases pu with
 | none=>exact wpAny_getItem_str_slice (l:=some (i,ui)) (u:=none) (st:=none) hs rfl (post_val_or_str {QX (XO z _ _) hz,fin})
 | int j uj=>exact wpAny_getItem_str_slice (l:=some (i,ui)) (u:=some (j,uj)) (st:=none) hs rfl (post_val_or_str {QX (XO z _ _) hz,fin})
theorem gN:∀{ys:List Str} {us:List Value},ba (ys.map V.str) us->StrsAre us ys
 | [],_,r=>by
  rw[List.map_nil]at r;cases r;exact .nil
 | y::ys,_,r=>by
  rw[QM]at r
  cases r with
  | cons r1 r2 =>
  obtain⟨t,e⟩:=r1;subst e;exact .cons y t (gN r2)
def Bn (K:PySem.W.Frag):V->List V->Hp->VK->Prop:=λx vs H Q=>∃(z:Str) (l:Addr) (ys:List Str),x=.str z/\vs=[.ref l]/\SqL K H l (ys.map V.str)/\(ys.map (·.length)).sum+ys.length*z.length<=16777216/\Q (.str (Txt.join z ys)) H
theorem tf:MtR X "str.join" (Bn X.K):=by
 intro pins s U H x vs v us Q I rx rv h;obtain⟨z,l,ys,e1,e2,hl,hz,q⟩:=h;subst e1 e2;obtain⟨t,e⟩:=rx;subst e;obtain⟨u,e,ru⟩:=rv.one;subst e;cases ru;obtain⟨its,r,pl,_⟩:=I.list hl;exact join_list pl.isList (by simpa using gN r) hz λt' k=>{.str _,H,I.tok k,⟨t',rfl⟩,q}
theorem mO (ys:List Str):(Txt.join Str.empty ys).cps.toList=(ys.map (·.cps.toList)).flatten:=by
 unfold Txt.join;rw[PySem.StrLaws.glued_eq_join]
 induction ys with
 | nil=>rfl
 | cons y r ih =>
 cases r with
 | nil=>simp[Str.join]
 | cons y2 r2 =>
 show (y++Str.empty++Str.join Str.empty (y2::r2)).cps.toList=_;rw[QM,List.flatten_cons,<-ih];show (y.cps++Str.empty.cps++(Str.join Str.empty (y2::r2)).cps).toList=_;simp[Str.empty]
end
inductive EqD (K:PySem.W.Frag) (H:Hp):Nat->V->V->Bool->Prop
 | flat {n:Nat} {x y:V}:fh x=true->fh y=true->EqD K H n x y (eqV x y)
 | same {n:Nat} {a:Addr}:EqD K H n (.ref a) (.ref a) true
 | lists {n:Nat} {a b:Addr} {xs ys:List V} {e:Nat->Bool}:SqL K H a xs->SqL K H b ys->xs.length=ys.length->(∀(j:Nat) x y,xs[j]?=some x->ys[j]?=some y->EqD K H n x y (e j))->a≠b ->
   EqD K H (n+1) (.ref a) (.ref b) ((List.range xs.length).all e)
 | tups {n:Nat} {a b:Addr} {xs ys:List V} {e:Nat->Bool}:SqT K H a xs->SqT K H b ys->(∀(j:Nat) x y,xs[j]?=some x->ys[j]?=some y->EqD K H n x y (e j))->a≠b ->
   EqD K H (n+1) (.ref a) (.ref b) ((List.range (min xs.length ys.length)).all e&&xs.length==ys.length)
theorem EqD.at {X:Cx} {pins:F2} {U:St} {H:Hp} {s:Shared} (I:Inv X pins U H s) {n:Nat} {x y:V} {b:Bool} (h:EqD X.K H n x y b) :
  ∀{A:Around} {u v:Value},A.units+n<cLine->aZ x u->aZ y v->SeqAt.EqAt A s u v b:=by
 induction h with
 | flat fx fy=>intro A u v _ rx ry;exact wU rx ry fx fy
 | same =>
  intro A u v _ rx ry;cases rx;cases ry;exact SeqAt.EqAt.same _
 | @lists n a c xs ys e ha hb hl hi hne ih =>
  intro A u v hu rx ry;cases rx;cases ry;obtain⟨its,r1,p1,_⟩:=I.list ha;obtain⟨its2,r2,p2,_⟩:=I.list hb;have l1:=r1.length;have l2:=r2.length;refine SeqAt.EqAt.of_refs hne ?_
  have q:=SeqAt.RcAt.lists (A:=A) (e:=e) p1.isList p2.isList (by rw[Qm,Qm];exact om7 hl l1 l2) (by exact om8 hu) λj h1 h2=>by
   rw[Qm]at h1 h2;have e1:xs[j]?=some xs[j]:=Qc (by exact om9 hl l1 l2 h1);have e2:ys[j]?=some ys[j]:=Qc (by exact E9 hl l1 l2 h1);obtain⟨w1,g1,rr1⟩:=r1.get e1;obtain⟨w2,g2,rr2⟩:=r2.get e2
   have g1':its.toArray[j]=w1:=by
    have:=(Qe.mp g1).2;simpa using this
   have g2':its2.toArray[j]=w2:=by
    have:=(Qe.mp g2).2;simpa using this
   rw[g1',g2'];exact ih j _ _ e1 e2 (by show A.units+1+n<cLine;exact DL hu) rr1 rr2
  rw[Qm,<-l1]at q;exact q
 | @tups n a c xs ys e ha hb hi hne ih =>
 intro A u v hu rx ry;cases rx;cases ry;obtain⟨its,r1,p1,_⟩:=I.tuple ha;obtain⟨its2,r2,p2,_⟩:=I.tuple hb;have l1:=r1.length;have l2:=r2.length;refine SeqAt.EqAt.of_refs hne ?_
 have q:=SeqAt.RcAt.tuples (A:=A) (e:=e) (show s.heap.IsTuple a its.toArray from p1) (show s.heap.IsTuple c its2.toArray from p2) (by exact om8 hu) λj h1 h2=>by
  rw[Qm]at h1 h2;have e1:xs[j]?=some xs[j]:=Qc (by exact Az l1 h1);have e2:ys[j]?=some ys[j]:=Qc (by exact Az l2 h2);obtain⟨w1,g1,rr1⟩:=r1.get e1;obtain⟨w2,g2,rr2⟩:=r2.get e2
  have g1':its.toArray[j]=w1:=by
   have:=(Qe.mp g1).2;simpa using this
  have g2':its2.toArray[j]=w2:=by
   have:=(Qe.mp g2).2;simpa using this
  rw[g1',g2'];exact ih j _ _ e1 e2 (by show A.units+1+n<cLine;exact DL hu) rr1 rr2
 rw[Qm,Qm,<-l1,<-l2]at q;exact q
section
variable {X:Cx}
theorem EqD.items {pins:F2} {U:St} {H:Hp} {s:Shared} (I:Inv X pins U H s) {n:Nat} {A:Around} (hu:A.units+1+n<cLine) {xs ys:List V} {its its2:List Value} (r1:ba xs its) (r2:ba ys its2) {e:Nat->Bool}
  (h:∀(j:Nat) x y,xs[j]?=some x->ys[j]?=some y->EqD X.K H n x y (e j)) (j:Nat) (h1:j<its.toArray.size) (h2:j<its2.toArray.size):SeqAt.EqAt A.in1 s its.toArray[j] its2.toArray[j] (e j):=by
 have l1:=r1.length;have l2:=r2.length;rw[Qm]at h1 h2;have e1:xs[j]?=some xs[j]:=Qc (by exact Du h1 l1);have e2:ys[j]?=some ys[j]:=Qc (by exact Du h2 l2);obtain⟨w1,g1,rr1⟩:=r1.get e1;obtain⟨w2,g2,rr2⟩:=r2.get e2
 have g1':its.toArray[j]=w1:=by
  have:=(Qe.mp g1).2;simpa using this
 have g2':its2.toArray[j]=w2:=by
  have:=(Qe.mp g2).2;simpa using this
 rw[g1',g2'];exact EqD.at I (h j _ _ e1 e2) (by show A.units+1+n<cLine;exact hu) rr1 rr2
def pT (K:PySem.W.Frag) (neg:Bool):R2:=λx y H Q=>∃a b xs ys e,x=.ref a/\y=.ref b/\SqL K H a xs/\SqL K H b ys/\(∀(j:Nat) x y,xs[j]?=some x->ys[j]?=some y->EqD K H 8 x y (e j)) /\
 Q (.bl (if neg then !(xs.length==ys.length&&(List.range xs.length).all e) else (xs.length==ys.length&&(List.range xs.length).all e))) H
theorem n9 (hu:X.A.units+64<cLine):OpR X (compareOp .Eq) (pT X.K false):=by
 intro pins s U H x y v u Q I rx ry h;obtain⟨a,b,xs,ys,e,e1,e2,ha,hb,hi,q⟩:=h;subst e1 e2;cases rx;cases ry;obtain⟨its,r1,p1,_⟩:=I.list ha;obtain⟨its2,r2,p2,_⟩:=I.list hb;have l1:=r1.length;have l2:=r2.length;by_cases hl:xs.length=ys.length
 ·refine SeqAt.eq_listAt (e:=e) p1.isList p2.isList (by rw[Qm,Qm];exact Di l1 l2 hl) (by exact xT hu) (EqD.items I (by exact C4 hu) r1 r2 hi) {.bl _,H,I,rfl,?_};rw[Qm,<-l1];have:(xs.length==ys.length)=true:=by simpa using hl
  rw[this]at q;exact q
 refine SeqAt.eq_list_lengthsAt p1.isList p2.isList (by rw[Qm,Qm,<-l1,<-l2];simpa using hl) (by exact xT hu) {.bl _,H,I,rfl,?_};have:(xs.length==ys.length)=false:=by simpa using hl
 rw[this]at q;exact q
theorem n8 (hu:X.A.units+64<cLine):OpR X (compareOp .NotEq) (pT X.K true):=by
 intro pins s U H x y v u Q I rx ry h;obtain⟨a,b,xs,ys,e,e1,e2,ha,hb,hi,q⟩:=h;subst e1 e2;cases rx;cases ry;obtain⟨its,r1,p1,_⟩:=I.list ha;obtain⟨its2,r2,p2,_⟩:=I.list hb;have l1:=r1.length;have l2:=r2.length;by_cases hl:xs.length=ys.length
 ·refine SeqAt.RcNeAt.lists (e:=e) p1.isList p2.isList (by rw[Qm,Qm];exact Di l1 l2 hl) (by exact xT hu) (EqD.items I (by exact C4 hu) r1 r2 hi) _ _ _ _ {.bl _,H,I,rfl,?_};rw[Qm,<-l1];have:(xs.length==ys.length)=true:=by simpa using hl
  rw[this]at q;exact q
 refine SeqAt.RcNeAt.lists_lengths p1.isList p2.isList (by rw[Qm,Qm,<-l1,<-l2];simpa using hl) (by exact xT hu) _ _ _ _ {.bl _,H,I,rfl,?_};have:(xs.length==ys.length)=false:=by simpa using hl
 rw[this]at q;exact q
end
section
variable {X:Cx}
theorem cW:dP X (.builtin "isinstance") (λxs H Q=>∃x T ty b,xs=[x,.ty T]/\TyOf X.K H x ty/\PySem.W.kitOne X.K ty (.type T)=some b/\Q (.bl b) H):=by
 intro pins s U H xs us Q I r h;obtain⟨x,T,ty,b,e,t,k,q⟩:=h;subst e;obtain⟨u1,u2,e,r1,r2⟩:=sr r;subst e;cases r2;exact uS I r1 t k λtk=>{.bl b,H,I.tok tk,rfl,q}
theorem fX {K:PySem.W.Frag} (T:String):PySem.W.kitOne K (.type T) (.type T)=some true:=by
 unfold PySem.W.kitOne;rw[QL (by simp)]
theorem u_ (bs:List Bool):(List.range bs.length).all (λi=>bs.getD i false)=bs.all id:=by
 rw[Bool.eq_iff_iff];simp only[QN,List.mem_range]
 constructor
 ·intro h x hx;obtain⟨i,hi,e⟩:=Qo.mp hx;have q:=h i hi;rw[QQ,Qc hi,Option.getD_some,e]at q;exact q
 intro h i hi;rw[QQ,Qc hi,Option.getD_some];exact h _ (Xo hi)
theorem gb (hc:X.calm=true):dP X (.builtin "all") (λxs H Q=>∃(l:Addr) (bs:List Bool),xs=[.ref l]/\SqL X.K H l (bs.map V.bl)/\Q (.bl (bs.all id)) H):=by
 intro pins s U H xs us Q I r h;obtain⟨l,bs,e,hl,q⟩:=h;subst e;obtain⟨u,e,ru⟩:=d_ r;subst e;cases ru;obtain⟨its,rv,pl,hz⟩:=I.list hl;have hlen:=rv.length;rw[Qa]at hlen
 have ne:l≠s.heap.objs.size:=by
  obtain⟨o,ho,_⟩:=pl.isList;exact Qz (Ql ho)
 refine call_all_walk (wpAny_pyIter_list pl.isList ?_);refine{s.heap.objs.size,_,_,_,_,_,(λi=>bs.getD i false),rfl,Walks.list (show X.A.in1.handled=none from I.ok.hd hc) s.heap.objs.size l ne its.toArray,{ {_,Qq _ rfl,rfl,rfl},pl.isList.push _},?_,λh' tk hk=>?_}
 ·intro i v s' Q' E' hP hQ;have hP':its[i]?=some v:=by simpa using hP
  have hi:i<bs.length:=by
   have:=(Qe.mp hP').1;exact Az hlen this
  have e1:(bs.map V.bl)[i]?=some (.bl (bs.getD i false)):=by
   rw[Qi,Qc hi,QQ,Qc hi];rfl
  obtain⟨u,hu,ru⟩:=rv.get e1;rw[hP']at hu;cases hu;cases ru;exact wpAny_truthy_bool hQ
 have hs:its.toArray.size=bs.length:=by rw[Qm];exact hlen.symm
 rw[hs,u_]
 exact{.bl _,H,I.kept λb o e=>hk b o (by
  have:=Ql e;simp only[Qr]
  exact Qz this) (Qd _ e),rfl,q}
abbrev sD (K:PySem.W.Frag) (T:Addr) (D:List (Str × KTD.Dat)):Prop:=KTD.tabLook (KTD.datLooks λa=>K.lookup a) (λa=>K.lookup a) T D=true
theorem uq {T:Addr} {D:List (Str × KTD.Dat)} (hT:sD X.K T D):OpR X (compareOp .In) (λx y H Q=>∃z,x=.str z/\y=.ref T/\Q (.bl (KTD.inKeys z D)) H):=by
 intro pins s U H x y v u Q I rx ry h;obtain⟨z,e1,e2,q⟩:=h;subst e1 e2;obtain⟨t,e⟩:=rx;subst e;cases ry;exact KTD.in_text (h₀:=X.base) {KTD.text_of_look (get:=λa=>X.K.lookup a) (λa o e=>I.mod.kin a o e) hT,I.bk} {.bl _,H,I.tok _,rfl,q}
theorem rj:OpR X (binaryOp .Mult) (λx y H Q=>∃z n,x=.str z/\y=.int n/\MulOk z n/\Q (.str (Txt.mul z n)) H):=by
 intro pins s U H x y v u Q I rx ry h;obtain⟨z,n,e1,e2,hm,q⟩:=h;subst e1 e2;obtain⟨t,e⟩:=rx;subst e;obtain⟨t',e⟩:=ry;subst e;exact SB.mul hm λt' k=>{.str _,H,I.tok k,⟨t',rfl⟩,q}
theorem ma:dP X (.type "int") (λxs H Q=>∃z n,xs=[.str z]/\PySem.intText? z=some n/\z.length<=640/\Q (.int n) H):=by
 intro pins s U H xs us Q I r h;obtain⟨z,n,e,h1,h2,q⟩:=h;subst e;obtain⟨u,e,ru⟩:=d_ r;subst e;obtain⟨t,e⟩:=ru;subst e;exact PySem.W.KIN.call_text h1 h2 {.int n,H,I.tok _,⟨_,rfl⟩,q}
end
theorem Inv.turned2 {X:Cx} {pins:F2} {U:St} {H:Hp} {s:Shared} {h':Heap} {t':Nat} {o:HO} (I:Inv X pins U H s) (k:∀b o,b≠e->b≠it->s.heap.get? b=some o->h'.get? b=some o)
  (f1:hV X pins H e) (f2:hV X pins H it) (hT:s.heap.objs.size<=T) (new:bD X.prog X.w (upd H T o) h' T o):Inv X pins U (upd H T o) { s with heap:=h',toks:=t' }:=by
 have hn:H T=none:=I.hok.fresh hT;have nT:∀b u,s.heap.get? b=some u->b≠T:=λb u q=>Qz (QK (Ql q) hT);have n1:∀b u,H b=some u->b≠e:=λb u q z=>by rw[z,f1.1]at q;cases q
 have n2:∀b u,H b=some u->b≠it:=λb u q z=>by rw[z,f2.1]at q;cases q
 have kk:∀b u,b∉[e,it]->s.heap.get? b=some u->h'.get? b=some u:=λb u hc q=>k b u (λz=>hc (by simp[z])) (λz=>hc (by simp[z])) q
 refine I.step (g':=s.gens) (d':=s.drawn) (ch:=[e,it]) (λb hb=>?_) (λb u _ _ hc q _=>kk b u hc q) (λb u _ _ hc q _=>{u.slots,kk b u hc q}) (λb u _ q n=>by rw[am (nT b u q)];exact n)
  (λb u hc q=>{u,kk b u hc q}) (λb xs q=>by rw[am (aG q hn)];exact q) (λb u xs q=>by rw[am (aG q hn)];exact q) (λb ps q=>{#[],by rw[am (aG q hn),q];simp}) (λm hm=>?_) (λb u q=>?_) I.bare
 ·have z:b=e\/b=it:=by simpa using hb
  rcases z with z|z
  ·subst z;obtain⟨_,a2,_,a4,a5,a6⟩:=f1;exact⟨a4,a2,a5,a6⟩
  subst z;obtain⟨_,a2,_,a4,a5,a6⟩:=f2;exact⟨a4,a2,a5,a6⟩
 ·obtain⟨ob,es,ep,ho,r⟩:=hm;exact{ob,es,ep,k _ ob (XH f1.2.1) (XH f2.2.1) ho,r}
 by_cases hb:b=T
 ·subst hb;rw[af]at q;cases q;exact new
 rw[am hb]at q;refine(I.hok b u q).stay (λc v hc z=>k c v ?_ ?_ z) (λc z=>by rw[am (aG z hn)];exact z) λc xs z=>by rw[am (aG z hn)];exact z
 ·rcases hc with z|z
  ·rw[z];exact n1 b u q
  exact n1 c _ z
 rcases hc with z|z
 ·rw[z];exact n2 b u q
 exact n2 c _ z
noncomputable def Ite (K:PySem.W.Frag) (a:Addr):It :=
 {λi H=>∃xs x,SqL K H a xs/\xs[i]?=some x,λi H x H'=>∃T v,H T=none/\x=.ref T/\H'=upd H T (.tup [.int (i:Nat),v])/\∀xs,SqL K H a xs->xs[i]?=some v,λi H=>∃xs,SqL K H a xs/\xs.length<=i}
theorem t5 {elts:List Expr} {k:Nat} (a e it:Addr) (hne:e≠it) :
  Turn P w K (.Tuple elts k pos) (Ite K a) [e,it] e (λi h=>(∃old,IsEnum h e it (i:Nat) old)/\h.IsListIter it a i) where
 mem:=by simp
 obj:=λi h st b hb=>by
  obtain⟨⟨old,he⟩,o,ho,hc,hd⟩:=st;have z:b=e\/b=it:=by simpa using hb
  rcases z with z|z
  ·subst z
   exact{_,he,λv q=>by
    have q':Data.fields _=Data.cell v:=q
    cases q'}
  subst z;exact{o,ho,λv q=>by rw[hd]at q;cases q}
 keep:=λi h h' st kk=>by
  obtain⟨⟨old,he⟩,hl⟩:=st;exact{ {old,kk e (by simp) _ he},hl.at λo q=>kk it (by simp) o q}
 item:=by
  intro X hP hw hK hc i pins s U H E I hf st hg;subst hP hw hK;obtain⟨xs,x,hq,hx⟩:=hg;obtain⟨its,rv,p,hz⟩:=I.list hq;obtain⟨u,hu,ru⟩:=rv.get hx;obtain⟨⟨old,he⟩,hl⟩:=st;have f1:=hf e (by simp);have f2:=hf it (by simp);refine wpAny_pyNext_enum_item he hl p.isList (x:=u) (by simpa using hu) hne λh1 a1 a2 a3 a4 a5=>{_,rfl,?_};refine wpAny_letOwnedTupleGo_enum a1 λh2 b1 b2=>?_
  have nTe:s.heap.objs.size≠e:=λz=>by
   have q:=Ql (show s.heap.get? e=some _ from he);rw[<-z]at q;exact Nat.lt_irrefl _ q
  have keep2:∀b o,b≠e->b≠it->s.heap.get? b=some o->h2.get? b=some o:=λb o n1 n2 q=>b2.extBut b o n1 (a5 b o n1 n2 q);have tup2:h2.get? s.heap.objs.size=some { cls:=.type "tuple", data:=.seq #[.int i s.toks,u] }:=b2.extBut _ _ nTe a3
  have I2:Inv X pins U (upd H s.heap.objs.size (.tup [.int (i:Nat),x])) { s with heap:=h2,toks:=s.toks+1 } :=
   I.turned2 keep2 f1 f2 (Qh _) {(by show 2<=sizeLine;decide),[.int i s.toks,u],.cons ⟨_,rfl⟩ (.cons ru .nil),⟨_,tup2,rfl,_,rfl⟩}
  refine{.ref s.heap.objs.size,_,I2,rfl,{s.heap.objs.size,x,I.hok.fresh (Qh _),rfl,rfl,λys hy=>by rw[I.list_inj hy hq];exact hx},{ {u,?_},(a2.extBut b2.extBut (XH hne))},λb hb=>?_}
  ·have q:IsEnum h2 e it ((i:Int)+1) u:=b1;have c:(((i+1:Nat):Nat):Int)=(i:Int)+1:=by omega
   rw[c];exact q
  have z:b=e\/b=it:=by simpa using hb
  have nT:b≠s.heap.objs.size:=by
   rcases z with z|z
   ·rw[z];exact XH nTe
   rw[z];obtain⟨o,ho,_⟩:=hl;exact Qz (Ql ho)
  rw[am nT];exact(hf b hb).1
 done:=by
  intro X hP hw hK hc i pins s U H E I hf st hg;subst hP hw hK;obtain⟨xs,hq,hx⟩:=hg;obtain⟨its,rv,p,hz⟩:=I.list hq;obtain⟨⟨old,he⟩,hl⟩:=st;obtain⟨f0,f1,f2,f3,f4,f5⟩:=hf it (by simp);have hlen:=rv.length;exact wpAny_pyNext_enum_end (I.ok.hd hc) he hl p.isList (by simp;exact om4 hx hlen) λh' eb=>{rfl,I.turned (t':=s.toks) (λb o hb q=>eb b o hb q) f0 f1 f3 f4 f5}
 self:=λ_ _ _ _ _ st h=>by
  obtain⟨⟨old,he⟩,_⟩:=st;exact wpAny_pyIter_enum he h
section
variable {X:Cx} {elts:List Expr} {k:Nat} {tpos:Pos}
def D3 (K:PySem.W.Frag) (ta:TA):TI:=λU H R=>ta U H λvs H1=>∃a,vs=[.ref a]/\(∃xs,SqL K H1 a xs)/\R (Ite K a) H1
theorem sU {a:Expr} {ta:TA} {p pos:Pos} (hg:Gl X "enumerate") (hm:X.mg "enumerate" = none) (ha:PA X [a] ta) (hs:starEach [a] X.env=[(false,eval a X.env)]:=by rfl):PI X (.Tuple elts k tpos) (.Call (.Name "enumerate" p) [a] [] pos) (D3 X.K ta):=by
 intro pins s U H R I h;refine Call_ (dR I hg hm boot_enumerate (Xe (thn (ha pos pins s U H _ I h) λus s1 ⟨vs,H1,I1,r1,q1⟩=>?_) hs rfl));obtain⟨l,e,⟨xs,hq⟩,q⟩:=q1;subst e
 cases r1 with
 | cons r rr =>
 cases rr;cases r;obtain⟨its,rv,pl,hz⟩:=I1.list hq;refine call_enumerate_list pl.isList λh' b1 b2 b3 b4=>?_;refine wpAny_pyIter_enum b1 ?_;have I2:Inv X pins U H1 { s1 with heap:=h' }:=I1.kept (t':=s1.toks) b4;refine{s1.heap.objs.size+1,[s1.heap.objs.size+1,s1.heap.objs.size],_,_,H1,rfl,I2,t5 l (s1.heap.objs.size+1) s1.heap.objs.size (by show @Ne Nat _ _;exact om5),{⟨_,b1⟩,b2},λb hb=>?_,q};have z:b=s1.heap.objs.size+1\/b=s1.heap.objs.size:=by simpa using hb
 have hle:s1.heap.objs.size<=b:=by
  rcases z with z|z
  ·rw[z];exact Nat.le_succ _
  rw[z];exact Qh _
 exact I1.fpOk hle (I1.hok.fresh hle)
end
theorem qz {xs:List V} {g:TG} {tb:TS} {D:Ends} {U:St} {H:Hp} (Pv:Nat->St->Hp->Prop) (h0:Pv 0 U H) (hl:∀i U H,i<=xs.length->Pv i U H->SqL K H a xs)
  (hs:∀i x U H T,xs[i]?=some x->Pv i U H->H T=none->g (.ref T) U (upd H T (.tup [.int (i:Nat),x])) λσ2 H2=>tb { D with nx:=Pv (i+1),ct:=Pv (i+1),bk:=D.nx } σ2 H2) (hd:∀U H,Pv xs.length U H->D.nx U H) :
  ∃W:Nat->Nat->St->Hp->Prop,(∃m,W 0 m U H)/\∀i m U H,W i m U H ->
   ((Ite K a).stop i H/\D.nx U H)\/((Ite K a).go i H/\∃N:St->Hp->Prop,(∀σ' H',N σ' H'->∃m',m'<m/\W (i+1) m' σ' H')/\∀x H',(Ite K a).yld i H x H'->g x U H' λσ2 H2=>tb { D with nx:=N,ct:=N,bk:=D.nx } σ2 H2):=by
 refine{λi m U H=>m=xs.length-i/\i<=xs.length/\Pv i U H,{xs.length,by simp,QG _,h0},?_};rintro i m U H ⟨rfl,hi,p⟩;have q:=hl i U H hi p;by_cases hlt:i<xs.length
 ·refine .inr { {xs,xs[i],q,by simp[hlt]},Pv (i+1),λσ' H' p'=>{xs.length-(i+1),by exact om6 hlt,rfl,hlt,p'},λx H' y=>?_};obtain⟨T,v,hT,ex,eH,y⟩:=y;subst ex eH;exact hs i v U H T (y xs q) p hT
 have e:i=xs.length:=by exact om0 hi hlt
 subst e;exact .inl { {xs,q,Qh _},hd U H p}
structure Fn (P:Program) (w:World) (K:PySem.W.Frag) (mg:F3) (base:Heap) (x:Str) (ps:List Str) (k:Nat) (sp:Sp):Prop where
 ex:∃f fd,FnOk P w K mg base CX0 k f fd ps sp/\mg x=some (.ref f)/\PySem.W.keepIn K (.ref f)=true/\gJ K fd ps []
section
variable {X:Cx}
theorem za {x:Str} {ps:List Str} {k:Nat} {sp:Sp} {e:Expr} {es:List Expr} {t:TA} {p pos:Pos} (F:Fn X.prog X.w X.K X.mg X.base x ps k sp) (hr:Room k X.A) (hg:Gl X x) (ha:PA X (e::es) t)
  (hdb:(x==("__debug__" : Str))=false:=by decide) (he:starEach (e::es) X.env=(false,eval e X.env)::starEach es X.env:=by rfl) (hpl:(backTo pos (starEach es X.env)).any (·.1)=false:=by rfl) :
  PE X (.Call (.Name x p) (e::es) [] pos) (i5 sp [] E0 t):=by
 obtain⟨f,fd,G,hm,hk,hb⟩:=F.ex;exact xM G hr hg hm hk hb .nil zb ha hdb he hpl
theorem aS {x:Str} {ps:List Str} {k j:Nat} {sp:Sp} {e:Expr} {es:List Expr} {t:TA} {p pos:Pos} (F:Fn X.prog X.w X.K X.mg X.base x ps k sp) (hr:Room j X.A) (ha:PA X (e::es) t) (hk:k<=j:=by first|decide|omega) (hg:Gl X x:=by rfl) (hdb:(x==("__debug__" : Str))=false:=by decide) (he:starEach (e::es) X.env=(false,eval e X.env)::starEach es X.env:=by rfl) (hpl:(backTo pos (starEach es X.env)).any (·.1)=false:=by rfl):PE X (.Call (.Name x p) (e::es) [] pos) (i5 sp [] E0 t):=za F (hr.mono hk) hg ha hdb he hpl
end
section
variable {U:St} {H:Hp} {Q:VK} {K:PySem.W.Frag}
variable {v x y:V}
theorem aj {i:Nat} (h:U[i]?=some (some v)) (q:Q v H):bV i U H Q:=⟨v,h,q⟩
theorem i_c (q:Q v H):tC v U H Q:=q
variable {ta tb te ti tl:TE}
theorem aV {r:R2} (q:ta U H λx H1=>tb U H1 λy H2=>r x y H2 Q):tOp r ta tb U H Q:=q
variable {i j:Int}
theorem cw {g:Int->Int->V} (q:Q (g i j) H):rI0 g (.int i) (.int j) H Q:=⟨i,j,rfl,rfl,q⟩
theorem dj {C:Int->Int->Prop} {g:Int->Int->V} (c:C i j) (q:Q (g i j) H):rI C g (.int i) (.int j) H Q:=⟨i,j,rfl,rfl,c,q⟩
theorem i_eq (h:xD x y=true) (q:Q (.bl (decide (x=y))) H):rEq x y H Q:=⟨h,q⟩
theorem i_ne (h:xD x y=true) (q:Q (.bl (!decide (x=y))) H):rNe x y H Q:=⟨h,q⟩
variable {R:Bool->Hp->Prop}
theorem i_test {t:TE} (q:t U H λx H'=>∃k,x=.bl k/\R k H'):yH t U H R:=q
theorem i_tB {t:TE} (q:t U H λx H'=>∃k,x=.bl k/\R k H'):tB t U H R:=q
theorem i_and {t u:TT} (q:t U H λc H1=>if c=true then u U H1 R else R false H1):Bj t u U H R:=q
theorem i_or {t u:TT} (q:t U H λc H1=>if c=true then R true H1 else u U H1 R):tOr t u U H R:=q
theorem i_not {t:TT} (q:t U H λc H1=>R (!c) H1):A9 t U H R:=q
theorem i_andV (q:ta U H λx H1=>∃c,x=.bl c/\if c=true then tb U H1 Q else Q (.bl false) H1):yN ta tb U H Q:=q
theorem i_orV (q:ta U H λx H1=>∃c,x=.bl c/\if c=true then Q (.bl true) H1 else tb U H1 Q):A8 ta tb U H Q:=q
theorem i_notV (q:ta U H λx H1=>∃c,x=.bl c/\Q (.bl (!c)) H1):yI ta U H Q:=q
theorem i_ifE {t:TT} (q:t U H λc H1=>if c=true then ta U H1 Q else tb U H1 Q):tIf t ta tb U H Q:=q
theorem aC {R:List V->Hp->Prop} (q:R [] H):dW U H R:=q
variable {tr t:TA}
theorem ak {R:List V->Hp->Prop} (q:te U H λx H1=>tr U H1 λxs H2=>R (x::xs) H2):bj te tr U H R:=q
theorem bJ {sp:Sp} {E:XK} (q:t U H λvs H1=>sp vs H1 Q E):i5 sp [] E t U H Q:=by
 show t U H λvs H1=>sp (vs++[]) H1 Q E;simpa only[List.append_nil] using q
theorem dN {r:List V->Hp->VK->Prop} (q:t U H λvs H1=>r vs H1 Q):tCB r t U H Q:=q
theorem i_tup (q:t U H λxs H1=>xs.length<=sizeLine/\∀p,H1 p=none->Q (.ref p) (upd H1 p (.tup xs))):nj t U H Q:=q
theorem cA (q:t U H λxs H1=>xs.length<=sizeLine/\∀p,H1 p=none->Q (.ref p) (upd H1 p (.lst xs))):t_ t U H Q:=q
theorem i_bm {T:String} {r:V->List V->Hp->VK->Prop} {to:TE} (q:to U H λx H1=>tyV K T x H1/\t U H1 λxs H2=>r x xs H2 Q):tBM K T r to t U H Q:=q
theorem i_sl {r:V->Option Int->Option Int->Hp->VK->Prop} {tl th:TO} (q:te U H λx H1=>tl U H1 λl H2=>th U H2 λu H3=>r x l u H3 Q):tSl r te tl th U H Q:=q
theorem i_nopart {R:Option Int->Hp->Prop} (q:R none H):nk U H R:=q
theorem i_part {t:TE} {R:Option Int->Hp->Prop} (q:t U H λx H1=>∃i,x=.int i/\R (some i) H1):sE t U H R:=q
theorem tG {R:Option Int->Hp->Prop} (q:R (some i) H):∃j,V.int i=.int j/\R (some j) H:=⟨i,rfl,q⟩
variable {xs:List V}
theorem bd {p:Addr} {v:V} (h:SqL K H p xs) (e:atI xs i=some v) (q:Q v H):rb K (.ref p) (.int i) H Q:=⟨p,xs,i,v,rfl,rfl,h,e,q⟩
theorem i_ixT {p:Addr} (h:H p=some (.tup xs)) (e:atI xs i=some v) (q:Q v H):pS K (.ref p) (.int i) H Q:={p,xs,i,v,rfl,rfl,SqT.of h,e,q}
theorem gF {z:Str} {c:Nat} (hz:z.length<=sizeLine) (e:atI z.cps.toList i=some c) (q:Q (.str {#[c]}) H):Bo (.str z) (.int i) H Q:=⟨z,i,c,rfl,rfl,hz,e,q⟩
variable {D:Ends}
theorem s_seq {t u:TS} (q:t { D with nx:=u D } U H):xy t u D U H:=q
theorem bp {g:TG} (q:te U H λx H1=>g x U H1 D.nx):ua te g D U H:=q
theorem az {i:Nat} {R:St->Hp->Prop} (q:R (U.set i (some v)) H):eE i v U H R:=q
theorem s_drop (q:te U H λ_ H1=>D.nx U H1):yL te D U H:=q
theorem ck {te:TE} (q:te U H D.rt):A7 te D U H:=q
theorem s_next (q:D.nx U H):yJ D U H:=q
theorem s_if {c:TT} {t u:TS} (q:c U H λb H1=>if b=true then t D U H1 else u D U H1):Ba c t u D U H:=q
theorem s_sub {to:TE} {t:yB} {R:St->Hp->Prop} (q:to U H λo H1=>ti U H1 λi H2=>t o i v H2 λH3=>R U H3):D4 to ti t v U H R:=q
theorem s_setL {p:Addr} {k:Int} {j:Nat} {R:Hp->Prop} (h:H p=some (.lst xs)) (e:ixN xs.length k=some j) (q:R (upd H p (.lst (xs.set j v)))):yV (.ref p) (.int k) v H R:=⟨p,xs,k,j,rfl,rfl,h,e,q⟩
theorem s_for {wi:TI} {g:TG} {tb:TS} (q:wi U H λJ H1=>∃W:Nat->Nat->St->Hp->Prop,(∃m,W 0 m U H1)/\∀i m U H,W i m U H ->
 (J.stop i H/\D.nx U H)\/(J.go i H/\∃N:St->Hp->Prop,(∀σ' H',N σ' H'->∃m',m'<m/\W (i+1) m' σ' H')/\∀x H',J.yld i H x H'->g x U H' λσ2 H2=>tb { D with nx:=N,ct:=N,bk:=D.nx } σ2 H2)):Bc wi g tb D U H:=q
theorem s_rng1 {ta:TA} {R:It->Hp->Prop} (q:ta U H λvs H1=>∃j:Int,vs=[.int j]/\-(2 ^ 62)<=j/\j<2 ^ 62/\R (Itr 0 j.toNat) H1):zM ta U H R:=q
theorem s_list {R:It->Hp->Prop} (q:tl U H λx H1=>∃a,x=.ref a/\(∃xs,SqL K H1 a xs)/\R (Itl K a) H1):mN K tl U H R:=q
theorem s_str {R:It->Hp->Prop} (q:tl U H λv H1=>∃z:Str,v=.str z/\R (Itf z.cps.size (fI z)) H1):D1 tl U H R:=q
theorem bR {wi:TI} {g:TG} {tt:TT} {f:St->St} (q:wi U H λJ H1=>∀D,H1 D=none->∃W:Nat->Nat->Hp->List V->Prop,(∃m,W 0 m (upd H1 D (.lst [])) []) /\
 ∀i m H ys,W i m H ys->H D=some (.lst ys)/\((J.stop i H/\Q (.ref D) H)\/(J.go i H/\∀x H',J.yld i H x H'->g x (f U) H' λσ2 H2=>wk (f U) σ2/\tt σ2 H2 λb H3 =>
  if b=true then te σ2 H3 λv H4=>H4 D=some (.lst ys)/\ys.length<sizeLine/\∃m',m'<m/\W (i+1) m' (upd H4 D (.lst (ys++[v]))) (ys++[v])
  else ∃m',m'<m/\W (i+1) m' H3 ys))):iZ wi g tt te f U H Q:=q
end
def b8 (Pv:Nat->Hp->List V->Prop) (n:Nat) (D:Addr) (i:Nat) (ys:List V):VK:=λv H4=>H4 D=some (.lst ys)/\ys.length<sizeLine/\∃m',m'<n-i/\(m'=n-(i+1)/\i+1<=n/\Pv (i+1) (upd H4 D (.lst (ys++[v]))) (ys++[v]))
theorem b8.mk {Pv:Nat->Hp->List V->Prop} {D:Addr} {ys:List V} {v:V} {H4:Hp} (hd:H4 D=some (.lst ys)) (hi:i<n) (hl:ys.length<sizeLine) (p:Pv (i+1) (upd H4 D (.lst (ys++[v]))) (ys++[v])):b8 Pv n D i ys v H4 :=
 {hd,hl,n-(i+1),by exact om6 hi,rfl,hi,p}
section
variable {K:PySem.W.Frag} {g:TG} {te:TE} {σ0:St} {QD:Hp->Prop} {H1:Hp} {D:Addr}
theorem fB {lo:Int} {n:Nat} (Pv:Nat->Hp->List V->Prop) (h0:Pv 0 (upd H1 D (.lst [])) []) (hD:∀i H ys,Pv i H ys->H D=some (.lst ys))
  (hs:∀i H ys,i<n->Pv i H ys->g (.int (lo+i)) σ0 H λσ2 H2=>wk σ0 σ2/\gL σ2 H2 λb H3=>if b=true then te σ2 H3 (b8 Pv n D i ys) else ∃m',m'<n-i/\(m'=n-(i+1)/\i+1<=n/\Pv (i+1) H3 ys)) (hd:∀H ys,Pv n H ys->QD H) :
  ∃W:Nat->Nat->Hp->List V->Prop,(∃m,W 0 m (upd H1 D (.lst [])) [])/\∀i m H ys,W i m H ys->H D=some (.lst ys)/\(((Itr lo n).stop i H/\QD H)\/((Itr lo n).go i H/\∀x H',(Itr lo n).yld i H x H'->g x σ0 H' λσ2 H2=>wk σ0 σ2/\gL σ2 H2 λb H3 =>
   if b=true then te σ2 H3 λv H4=>H4 D=some (.lst ys)/\ys.length<sizeLine/\∃m',m'<m/\W (i+1) m' (upd H4 D (.lst (ys++[v]))) (ys++[v]) else ∃m',m'<m/\W (i+1) m' H3 ys)):=by
 refine{λi m H ys=>m=n-i/\i<=n/\Pv i H ys,{n,by simp,QG _,h0},?_};rintro i m H ys ⟨rfl,hi,p⟩;refine{hD i H ys p,?_};by_cases hlt:i<n
 ·refine .inr {hlt,λx H' y=>?_};obtain⟨e,y⟩:=y;subst e y;exact hs i _ ys hlt p
 have e:i=n:=by exact om0 hi hlt
 subst e;exact .inl {Qh _,hd H ys p}
theorem cg {a:Addr} {xs:List V} (Pv:Nat->Hp->List V->Prop) (h0:Pv 0 (upd H1 D (.lst [])) []) (hD:∀i H ys,Pv i H ys->H D=some (.lst ys)/\SqL K H a xs)
  (hs:∀i x H ys,xs[i]?=some x->Pv i H ys->g x σ0 H λσ2 H2=>wk σ0 σ2/\gL σ2 H2 λb H3=>if b=true then te σ2 H3 (b8 Pv xs.length D i ys) else ∃m',m'<xs.length-i/\(m'=xs.length-(i+1)/\i+1<=xs.length/\Pv (i+1) H3 ys)) (hd:∀H ys,Pv xs.length H ys->QD H) :
  ∃W:Nat->Nat->Hp->List V->Prop,(∃m,W 0 m (upd H1 D (.lst [])) [])/\∀i m H ys,W i m H ys->H D=some (.lst ys)/\(((Itl K a).stop i H/\QD H)\/((Itl K a).go i H/\∀x H',(Itl K a).yld i H x H'->g x σ0 H' λσ2 H2=>wk σ0 σ2/\gL σ2 H2 λb H3 =>
   if b=true then te σ2 H3 λv H4=>H4 D=some (.lst ys)/\ys.length<sizeLine/\∃m',m'<m/\W (i+1) m' (upd H4 D (.lst (ys++[v]))) (ys++[v]) else ∃m',m'<m/\W (i+1) m' H3 ys)):=by
 refine{λi m H ys=>m=xs.length-i/\i<=xs.length/\Pv i H ys,{xs.length,by simp,QG _,h0},?_};rintro i m H ys ⟨rfl,hi,p⟩;obtain⟨d1,d2⟩:=hD i H ys p;refine{d1,?_};by_cases hlt:i<xs.length
 ·refine .inr { {xs,xs[i],d2,by simp[hlt]},λx H' y=>?_};obtain⟨e,y⟩:=y;subst e;exact hs i x _ ys (y xs d2) p
 have e:i=xs.length:=by exact om0 hi hlt
 subst e;exact .inl { {xs,d2,Qh _},hd H ys p}
theorem w6 {n:Nat} {f:Nat->V} (Pv:Nat->Hp->List V->Prop) (h0:Pv 0 (upd H1 D (.lst [])) []) (hD:∀i H ys,Pv i H ys->H D=some (.lst ys))
  (hs:∀i H ys,i<n->Pv i H ys->g (f i) σ0 H λσ2 H2=>wk σ0 σ2/\gL σ2 H2 λb H3=>if b=true then te σ2 H3 (b8 Pv n D i ys) else ∃m',m'<n-i/\(m'=n-(i+1)/\i+1<=n/\Pv (i+1) H3 ys)) (hd:∀H ys,Pv n H ys->QD H) :
  ∃W:Nat->Nat->Hp->List V->Prop,(∃m,W 0 m (upd H1 D (.lst [])) [])/\∀i m H ys,W i m H ys->H D=some (.lst ys)/\(((Itf n f).stop i H/\QD H)\/((Itf n f).go i H/\∀x H',(Itf n f).yld i H x H'->g x σ0 H' λσ2 H2=>wk σ0 σ2/\gL σ2 H2 λb H3 =>
   if b=true then te σ2 H3 λv H4=>H4 D=some (.lst ys)/\ys.length<sizeLine/\∃m',m'<m/\W (i+1) m' (upd H4 D (.lst (ys++[v]))) (ys++[v]) else ∃m',m'<m/\W (i+1) m' H3 ys)):=by
 refine{λi m H ys=>m=n-i/\i<=n/\Pv i H ys,{n,by simp,QG _,h0},?_};rintro i m H ys ⟨rfl,hi,p⟩;refine{hD i H ys p,?_};by_cases hlt:i<n
 ·refine .inr {hlt,λx H' y=>?_};obtain⟨e,y⟩:=y;subst e y;exact hs i _ ys hlt p
 have e:i=n:=by exact om0 hi hlt
 subst e;exact .inl {rfl,hd H ys p}
end
section
variable {H:Hp} {Q:VK} {K:PySem.W.Frag}
theorem jb {z:Str} {lo hi:Option Int} (h:z.length<=sizeLine) (q:Q (.str (Txt.slice z lo hi)) H):Bl (.str z) lo hi H Q:=⟨z,rfl,h,q⟩
variable {xs zs:List V} {a p l b:Addr}
theorem jc {lo hi:Option Int} (h:SqL K H a xs) (q:∀p,H p=none->Q (.ref p) (upd H p (.lst (fJ xs lo hi)))):Aa K (.ref a) lo hi H Q:=⟨a,xs,rfl,h,q⟩
theorem Fe {x:V} (h:SqL K H p xs) (fx:fh x=true) (fs:xs.all fh=true) (q:Q (.bl (inV x xs)) H):rIn K false x (.ref p) H Q:={p,xs,rfl,.inl h,fx,fs,q}
theorem gG (h1:H l=some (.lst xs)) (h2:H b=some (.lst zs)) (hz:xs.length+zs.length<=sizeLine) (q:∀p,H p=none->Q (.ref p) (upd H p (.lst (xs++zs)))):xF (.ref l) (.ref b) H Q:=⟨l,b,xs,zs,rfl,rfl,h1,h2,hz,q⟩
theorem dr {y:V} (h:H l=some (.lst xs)) (hz:xs.length<sizeLine) (q:Q .non (upd H l (.lst (xs++[y])))):nV (.ref l) [y] H Q:=⟨l,xs,y,rfl,rfl,h,hz,q⟩
theorem i_tyL (h:H p=some (.lst xs)):tyV K "list" (.ref p) H:=.inl {rfl,xs,SqL.of h}
end
theorem ag {H:Hp} {o:HO} (hp:H p=none):ao H (upd H p o):=λb u e=>by rw[am (aG e hp)];exact e
end L2
namespace L2
open PySem
section
variable {U:St} {H:Hp} {D:Ends}
theorem s_seqT {t u:TS} (q:let D':Ends:={ D with nx:=u D };t D' U H):xy t u D U H:=q
theorem s_nameT {i:Nat} {v:V} {R:St->Hp->Prop} (q:let σ':St:=U.set i (some v);R σ' H):eE i v U H R:=q
end
variable {H:Hp}
theorem i_yes {U:St} {R:Bool->Hp->Prop} (q:R true H):gL U H R:=q
theorem i_dget {td ty:TE} {U:St} {Q:VK} (q:td U H λx H1=>ty U H1 λy H2=>∃a v,x=.ref a/\cK H2 a y (some v)/\Q v H2):yM td ty U H Q:=q
theorem i_un {r:V->Hp->VK->Prop} {ta:TE} {U:St} {Q:VK} (q:ta U H λx H1=>r x H1 Q):tUn r ta U H Q:=q
theorem i_rU {g:Int->V} {i:Int} {Q:VK} (q:Q (g i) H):rU g (.int i) H Q:=⟨i,rfl,q⟩
end L2
namespace L2
open PySem PySem.Spec PyProof.Rows
def dU (H:Hp) (c:Addr):Hp:=λb=>if b=c then none else H b
variable {c b f cell fa a T:Addr} {H:Hp}
theorem dD:dU H c c=none:=QL rfl
theorem bK (h:b≠c):dU H c b=H b:=QI h
theorem uZ {o:HO} (h:dU H c b=some o):b≠c/\H b=some o:=by
 by_cases e:b=c
 ·subst e;rw[dD]at h;cases h
 rw[bK e]at h;exact⟨e,h⟩
def cR (o:Obj):HO:=.frz o (.ext λ_=>True)
section
variable {P:Program} {w:World} {H H1:Hp} {h h1:Heap} {c:Addr} {o:Obj} {fs ex:F4}
theorem oO {H:Hp} (e:h.get? c=some o):bD P w H h c (cR o):={e,trivial,⟨o,e⟩,λ_ _ _ _=>trivial}
theorem HOk.drop (x:HOk P w H h) (hc:H c=some (cR o)):HOk P w (dU H c) h:=λb u e=>by
 obtain⟨_,e⟩:=uZ e;refine(x b u e).stay (λ_ _ _ q=>q) (λd q=>?_) λd xs q=>?_
 ·rw[bK];exact q;intro z;subst z;rw[hc]at q;cases q
 rw[bK];exact q;intro z;subst z;rw[hc]at q;cases q
theorem HOk.take (x:HOk P w H h) (hc:H c=none) (e:h.get? c=some o):HOk P w (upd H c (cR o)) h:=λb u q=>by
 by_cases hb:b=c
 ·subst hb;rw[af]at q;cases q;exact oO e
 rw[am hb]at q;refine(x b u q).stay (λ_ _ _ r=>r) (λd r=>?_) λd xs r=>?_
 ·rw[am (aG r hc)];exact r
 rw[am (aG r hc)];exact r
theorem Un.back (u:Un fs ex (dU H c) H1 h h1) (hc:H c=some (cR o)) (e:h.get? c=some o) (nf:c∉fs) (nx:c∉ex):Un fs ex H (upd H1 c (cR o)) h h1/\H1 c=none/\h1.get? c=some o:=by
 have h1c:=u.free c o e dD nx;have e1:=u.keep c o e dD nf nx;have ne:∀{b v},H b=some v->v≠cR o->b≠c:=λq n z=>by subst z;rw[hc]at q;cases q;exact n rfl
 have nn:∀{b},H b=none->b≠c:=λq z=>by subst z;rw[hc]at q;cases q
 refine{ {λb ob q n hb hx=>?_,λb ob q n hb hx=>?_,λb ob q n hx=>?_,λb ob q hx=>u.there b ob q hx,λb xs q=>?_,λb ob v q=>?_,λb ps q=>?_},h1c,e1}
 ·exact u.keep b ob q (by rw[bK (nn n)];exact n) hb hx
 ·exact u.slot b ob q (by rw[bK (nn n)];exact n) hb hx
 ·rw[am (nn n)];exact u.free b ob q (by rw[bK (nn n)];exact n) hx
 ·have nb:=ne q (λz=>by cases z);rw[am nb];exact u.tups b xs (by rw[bK nb];exact q)
 ·by_cases nb:b=c
  ·subst nb;rw[hc]at q;cases q;exact af
  rw[am nb];exact u.frzs b ob v (by rw[bK nb];exact q)
 have nb:=ne q (λz=>by cases z);rw[am nb];exact u.tbls b ps (by rw[bK nb];exact q)
theorem Un.out (u:Un fs ex (upd H c (cR o)) H1 h h1) (k1:HOk P w H1 h1) (hc:H c=none) (e:h.get? c=some o) (nf:c∉fs):Un fs ex H (dU H1 c) h h1/\HOk P w (dU H1 c) h1/\H1 c=some (cR o):=by
 have h1c:=u.frzs c o _ af;have e1:=(k1 c _ h1c).1;refine{ {λb ob q n hb hx=>?_,λb ob q n hb hx=>?_,λb ob q n hx=>?_,λb ob q hx=>u.there b ob q hx,λb xs q=>?_,λb ob v q=>?_,λb ps q=>?_},k1.drop h1c,h1c}
 ·by_cases nb:b=c
  ·subst nb;rw[e]at q;cases q;exact e1
  exact u.keep b ob q (by rw[am nb];exact n) hb hx
 ·have nb:b≠c:=λz=>by subst z;exact nf hb
  exact u.slot b ob q (by rw[am nb];exact n) hb hx
 ·by_cases nb:b=c
  ·subst nb;exact dD
  rw[bK nb];exact u.free b ob q (by rw[am nb];exact n) hx
 ·have nb:=aG q hc;rw[bK nb];exact u.tups b xs (by rw[am nb];exact q)
 ·have nb:=aG q hc;rw[bK nb];exact u.frzs b ob v (by rw[am nb];exact q)
 have nb:=aG q hc;rw[bK nb];exact u.tbls b ps (by rw[am nb];exact q)
end
structure Lm where
 qual:Str
 params:Arguments
 body:Expr
 scope:Scope
 pos:Pos
def ji (c:Addr) (qual:Str):HO:=.ext λh=>h.CodeRec (.ref c) qual
def iX (f:Addr) (l:Lm) (cl:List (Str × Addr)) (c:Addr):HO:=.ext λh=>∃pm ctv,h.get? f=some (PySem.W.kla_obj "<lambda>" l.qual l.params l.body l.scope cl pm c ctv)
variable {qual y z x n:Str} {h h1 base:Heap} {w:World} {P p q:Program}
theorem xa (r:h.CodeRec (.ref c) qual):bD P w H h c (ji c qual):=by
 obtain⟨d,oc,vs,t,e1,e2,r2⟩:=id r;cases e1;refine{r,⟨oc,e2⟩,λh1 h2 p k=>?_};obtain⟨d,oc,vs,t,e1,e2,r2⟩:=p;cases e1;exact{_,oc,vs,t,rfl,k _ e2,r2}
variable {pm ctv u uy:Value} {cl:List (Str × Addr)}
theorem tz {l:Lm} (e:h.get? f=some (PySem.W.kla_obj "<lambda>" l.qual l.params l.body l.scope cl pm c ctv)):bD P w H h f (iX f l cl c) :=
 {⟨pm,ctv,e⟩,⟨_,e⟩,λ_ _ ⟨pm,ctv,q⟩ k=>{pm,ctv,k _ q} }
def fk (l:Lm) (c:Addr):Array Value:=#[rawInt l.pos.line,rawInt l.pos.col,.ref c]
def fK (T:Addr) (l:Lm) (H:Hp):Prop:=H T=some (.tbl #[])\/∃c,H T=some (.tbl (fk l c))/\H c=some (ji c l.qual)
structure Made (T:Addr) (l:Lm) (cl:List (Str × Addr)) (H:Hp) (f c:Addr) (H':Hp):Prop where
 new:H f=none
 fn:H' f=some (iX f l cl c)
 code:H' c=some (ji c l.qual)
 tab:H' T=some (.tbl (fk l c))
 old:∀b o,H b=some o->b≠T->H' b=some o
def gK (base:Heap) (mg:F3):Prop:=∃bm ob,mg "__builtins__" = some (.ref bm)/\bm≠builtinsNs/\bm≠mainGlobals/\base.get? bm=some ob/\ob.cls=.type "module" /\ ob.dict=some builtinsNs/\ob.data=.plain
def A_ (T:Addr) (l:Lm) (cl:List (Str × Addr)):TE:=λ_ H Q=>fK T l H/\∀f c H',Made T l cl H f c H'->Q (.ref f) H'
section
variable {X:Cx}
theorem Ag {params:Arguments} {body:Expr} {scope:Scope} {pos:Pos} {cc T:Addr} {cl:List (Str × Addr)} (hcode:X.env.code=.ref cc) (C:PySem.W.CodeHd X.base cc T) (B:gK X.base X.mg) (hcl:closureFor scope X.env=pure cl) (hdef:defaultsOf params X.env=([],[]):=by rfl) :
  PE X (.Lambda params body scope pos) (A_ T {X.env.qual ++ "<lambda>", params,body,scope,pos} cl):=by
 intro pins s U H Q I h;obtain⟨tb,q⟩:=h;refine PySem.W.kla_eval hdef ?_;have hg:s.heap.Ns mainGlobals X.mg:=I.mod.glob.keeps I.bk;have hT:∃ps,H T=some (.tbl ps):=by rcases tb with e|⟨c,e,_⟩ <;> exact⟨_,e⟩
 obtain⟨ps0,hps0⟩:=hT
 have bne:∀{b ob},X.base.get? b=some ob->b≠T:=λe z=>by
  subst z;rw[(I.bs _ _ e).2]at hps0;cases hps0
 have hgP:mainGlobals≠T:=by
  obtain⟨o,es,ep,e,_⟩:=I.mod.glob;exact bne e
 obtain⟨bm,ob,b1,b2,b3,b4,b5,b6,b7⟩:=B;have hB:s.heap.BuiltinsAt X.mg T:={bm,ob,b1,b2,b3,bne b4,I.bk _ _ b4,b5,b6,b7};have CH:=C.keeps I.bk;rcases tb with e|⟨c,e,hc⟩
 ·have hP:s.heap.get? T=some (PySem.W.tabObj #[]):=I.hok T _ e;refine PySem.W.kla_makeFunction (mg:=X.mg) hcl I.ok.glob hg hcode CH hP trivial rfl hgP hB λc' ctv h' tk hx hge hlt hrec htb=>?_;have hsz:s.heap.objs.size<=h'.objs.size:=Xy (XB hge hlt);have nT:T<s.heap.objs.size:=Ql hP;let f:Addr:=h'.objs.size;have Hf:H f=none:=I.hok.fresh hsz;have Hc:H c'=none:=I.hok.fresh hge;have nfc:c'≠f:=Qz hlt;have nTf:T≠f:=Qz (QK nT hsz);have nTc:T≠c':=Qz (QK nT hge);let H':Hp:=upd (upd (upd H T (.tbl (fk {X.env.qual ++ "<lambda>", params,body,scope,pos} c'))) c' (ji c' (X.env.qual ++ "<lambda>"))) f (iX f {X.env.qual ++ "<lambda>", params,body,scope,pos} cl c')
  have hH:∀b o,H b=some o->b≠T->H' b=some o:=λb o e n=>by
   show upd (upd (upd H T _) c' _) f _ b=_;rw[am (aG e Hf),am (aG e Hc),am n];exact e
  have hHT:H' T=some (.tbl (fk {X.env.qual ++ "<lambda>", params,body,scope,pos} c')):=by
   show upd (upd (upd H T _) c' _) f _ T=_;rw[am nTf,am nTc,af]
  have hHc:H' c'=some (ji c' (X.env.qual ++ "<lambda>")):=by
   show upd (upd (upd H T _) c' _) f _ c'=_;rw[am nfc,af]
  have kx:∀b o,b≠T->s.heap.get? b=some o->(h'.push (PySem.W.kla_obj "<lambda>" (X.env.qual ++ "<lambda>") params body scope cl ((X.mg "__name__").getD .none) c' ctv)).get? b=some o:=λb o n e=>Qd _ (hx b o n e);have htb':h'.get? T=some (PySem.W.tabObj (fk {X.env.qual ++ "<lambda>", params,body,scope,pos} c')):=by simpa[fk] using htb
  have ntb:∀{b u},H b=some u->(∀ps,u≠.tbl ps)->b≠T:=λr n z=>by
   subst z;rw[e]at r;cases r;exact n _ rfl
  have un:Un X.fs [] H H' s.heap (h'.push (PySem.W.kla_obj "<lambda>" (X.env.qual ++ "<lambda>") params body scope cl ((X.mg "__name__").getD .none) c' ctv)):=by
   have nn:∀{b},H b=none->b≠T:=λn z=>by subst z;rw[e]at n;cases n
   refine{λb o r n _ _=>kx b o (nn n) r,λb o r n _ _=>{o.slots,kx b o (nn n) r},λb o r n _=>?_,λb o r _=>?_,λb xs r=>hH b _ r (ntb r λ_ z=>nomatch z),λb o v r=>hH b _ r (ntb r λ_ z=>nomatch z),λb ps r=>?_}
   ·have lb:b<s.heap.objs.size:=Ql r;show upd (upd (upd H T _) c' _) f _ b=none;rw[am (Qz (QK lb hsz)),am (Qz (QK lb hge)),am (nn n)];exact n
   ·by_cases z:b=T
    ·subst z;exact{_,Qd _ htb'}
    exact{o,kx b o z r}
   by_cases z:b=T
   ·subst z;rw[e]at r;cases r;exact{fk {X.env.qual ++ "<lambda>", params,body,scope,pos} c',by rw[hHT,Array.empty_append]}
   exact{#[],by rw[hH b _ r z];simp}
  have hok:HOk X.prog X.w H' (h'.push (PySem.W.kla_obj "<lambda>" (X.env.qual ++ "<lambda>") params body scope cl ((X.mg "__name__").getD .none) c' ctv)):=λb u qb=>by
   have qb:upd (upd (upd H T (.tbl (fk {X.env.qual ++ "<lambda>", params,body,scope,pos} c'))) c' (ji c' (X.env.qual ++ "<lambda>"))) f (iX f {X.env.qual ++ "<lambda>", params,body,scope,pos} cl c') b=some u:=qb;by_cases z1:b=f
   ·subst z1;rw[af]at qb;cases qb;exact tz (Qq _ rfl)
   rw[am z1]at qb;by_cases z2:b=c'
   ·subst z2;rw[af]at qb;cases qb;obtain⟨d,oc,vs,t,e1,e2,r2⟩:=hrec;exact xa {d,oc,vs,t,e1,Qd _ e2,r2}
   rw[am z2]at qb;by_cases z3:b=T
   ·subst z3;rw[af]at qb;cases qb;exact Qd _ htb'
   rw[am z3]at qb;refine(I.hok b u qb).stay (λd v hd r=>kx d v ?_ r) (λd r=>hH d _ r (ntb r λ_ z=>nomatch z)) λd xs r=>hH d _ r (ntb r λ_ z=>nomatch z);rcases hd with z|z
   ·rw[z];exact z3
   intro y;subst y;rw[e]at z;cases z
  refine{.ref f,H',I.un (t':=tk) un hok,rfl,q f c' H' ⟨Hf,af,hHc,hHT,hH⟩}
 have hP:s.heap.get? T=some (PySem.W.tabObj (fk {X.env.qual ++ "<lambda>", params,body,scope,pos} c)):=I.hok T _ e;refine PySem.W.kla_makeFunctionHit (mg:=X.mg) (cv:=.ref c) hcl I.ok.glob hg hcode CH hP trivial (by simp[fk,codeAmong,rawInt]) hB λctv h' tk hk hsz=>?_;let f:Addr:=h'.objs.size;have Hf:H f=none:=I.hok.fresh hsz;refine{.ref f,_,I.laid (t':=tk) (a:=f) (o:=iX f {X.env.qual ++ "<lambda>", params,body,scope,pos} cl c) (λb o e=>Qd _ (hk b o e)) hsz (tz (Qq _ rfl)),rfl,q f c _ {Hf,af,?_,?_,λb o e _=>?_} }
 ·rw[am (aG hc Hf)];exact hc
 ·rw[am (aG e Hf)];exact e
 rw[am (aG e Hf)];exact e
end
structure LmScope (x y:Str) (sc:Scope):Prop where
 kind:sc.kind=.function
 co:sc.isCoroutine=false
 gen:sc.isGenerator=false
 par:sc.names.lookup x=some .local
 fre:sc.names.lookup y=some .free
 ne:x≠y
 nocell:∀z∈sc.names,z.2≠.cell
 only:∀z,sc.names.lookup z=some .free->z=y
noncomputable def tO (P:Program) (w:World) (K:PySem.W.Frag) (mg:F3) (base:Heap) (x y:Str) (l:Lm) (f c cell:Addr) (A:Around) (outer:List Env) (s:Shared) (H:Hp) (E:XK):Cx where
 prog:=P
 w:=w
 K:=K
 mg:=mg
 base:=base
 A:=A.deeper (PySem.W.envX l.qual l.scope s.heap.objs.size f (.ref c) [(y,cell)])
 N:=[x,y]
 s₀:=s
 H₀:=H
 env:=PySem.W.envX l.qual l.scope s.heap.objs.size f (.ref c) [(y,cell)]
 outer:=outer
 stack:=PySem.W.envX l.qual l.scope s.heap.objs.size f (.ref c) [(y,cell)]::outer
 ex:=[]
 calm:=true
 fn:=λ_=>false
 pn:=[]
 xe:=λe s'=>wpAny (model P w) (A.deeper (PySem.W.envX l.qual l.scope s.heap.objs.size f (.ref c) [(y,cell)])) (leaving (PySem.W.envX l.qual l.scope s.heap.objs.size f (.ref c) [(y,cell)]) e) (λ_ s''=>CX0 outer H s E e s'') (λe' s''=>CX0 outer H s E e' s'') s'
theorem lk1 (h:[(y,cell)].lookup z=some c):z=y/\c=cell:=by
 rw[Q6]at h;by_cases e:(z==y)=true
 ·rw[e]at h;cases h;exact{eq_of_beq e,rfl}
 have e:(z==y)=false:=by simpa using e
 rw[e]at h;cases h
theorem qr:[(y,cell)].lookup y=some cell:=by
 rw[Q6,beq_self_eq_true]
variable {s s₁:Shared} {mg mb:F3} {K:PySem.W.Frag}
theorem yn {l:Lm} {f c:Addr} {A:Around} {outer:List Env} {E:XK} {vx vy:V} {tk:Nat}
  (S:LmScope x y l.scope) (hd:A.handled=none) (e0:Env0 P w K mg base A outer s H) (rx:aZ vx u) (ry:aZ vy uy) (hc:s.heap.IsCell cell (some uy)) (hH:H cell=none)
  (hns:h1.Ns s.heap.objs.size (λz=>[(x,u)].reverse.lookup z)) (hk:∀b o,s.heap.get? b=some o->h1.get? b=some o) :
  Inv (tO P w K mg base x y l f c cell A outer s H E) [] [some vx,some vy] H { s with heap:=h1,toks:=tk }:=by
 have noA:∀b:Addr,b∉(tO P w K mg base x y l f c cell A outer s H E).ex:=λb z=>absurd (show b∈([]:F4) from z) (by simp);have hc1:h1.IsCell cell (some uy):=by obtain⟨o,e1,e2⟩:=hc;exact{o,hk _ _ e1,e2}
 refine{ {e0.mod,S.kind,rfl,rfl,Qh _,λy' z c h1 h2=>(lk1 h1).1.trans (lk1 h2).1.symm,λz hz=>?_,(λy c h _=>nomatch h),λ_=>hd,Around.frames_deeper e0.frames,.inr ⟨rfl,rfl⟩,λb z=>absurd z (noA b),e0.bs,e0.bsz,λb _ _=>noA b,λb z=>absurd z (noA b),e0.funs,e0.frf},
  rfl,e0.bare,Un.kept hk,{_,hns,λi z v h1 h2 h3=>?_},λz c h=>?_,e0.hok.fresh (Qh _),λz c h=>?_,λp hp=>absurd (show p∈([]:F2) from hp) (by simp),e0.hok.kept hk,rfl}
 ·have hz:l.scope.names.lookup z=some .cell\/l.scope.names.lookup z=some .free:=hz;rcases hz with hz|hz
  ·exact absurd rfl (S.nocell _ (PySem.mem_of_lookup hz))
  rw[S.only z hz];exact⟨cell,qr⟩
 ·match i with
  | 0 =>
   cases h1;cases h2;refine{u,rx,.inl {S.par,?_} };show [(x,u)].reverse.lookup x=some u;simp[List.lookup]
  | 1 =>
   cases h1;cases h2;exact{uy,ry,.inr {.inr S.fre,cell,qr,hc1} }
  | i+2 =>
   exact absurd h1 (by show ([x,y]:List Str)[i+2]?≠some z;simp)
 ·rw[(lk1 h).2];exact⟨_,hc1⟩
 rw[(lk1 h).2];exact hH
theorem yi {l:Lm} {A:Around} {outer:List Env} {Q:VK} {E:XK} {vx vy:V} {k:Nat} {t:TE} {args:Args}
  (S:LmScope x y l.scope) (hr:Room (k+1) A) (e0:Env0 P w K mg base A outer s H) (rx:aZ vx u) (ry:aZ vy uy) (hc:s.heap.IsCell cell (some uy)) (hH:H cell=none)
  (hf:s.heap.get? f=some (PySem.W.kla_obj "<lambda>" l.qual l.params l.body l.scope [(y,cell)] pm c ctv)) (hcd:s.heap.CodeRec (.ref c) l.qual) (hb:bindArgs (PySem.W.kla_fn "<lambda>" l.qual l.params l.body l.scope [(y,cell)] pm (.ref c) ctv) args=pure [(x,u)])
  (body:Room k (A.deeper (PySem.W.envX l.qual l.scope s.heap.objs.size f (.ref c) [(y,cell)]))->PE (tO P w K mg base x y l f c cell A outer s H E) l.body t) (q:t [some vx,some vy] H Q):codeAny (model P w) A (.call (.ref f) args) (CR CX0 outer P w H s Q E) s:=by
 have lim:s.heap.NoLimit:=e0.mod.nolimit.keeps λb o e=>(e0.bs b o e).1;refine PySem.W.kla_callFunE hr.depth hf rfl S.co S.gen rfl hcd ?_;rw[hb];refine Qf (wpAny_newFunctionEnv S.nocell (λz hz=>by rw[Qr.mp hz];exact S.par) (λh1 hns hsb=>?_) S.kind);have hk1:∀b o,s.heap.get? b=some o->h1.get? b=some o:=λb o e=>hsb.extBut b o (Qz (Ql e)) (Qd _ e);refine{lim.keeps hk1,?_};show codeAny _ _ (.expr l.body (PySem.W.envX l.qual l.scope s.heap.objs.size f (.ref c) [(y,cell)])) _ _;have I:=yn (f:=f) (c:=c) (E:=E) (tk:=s.toks+[(x,u)].length) S hr.hd e0 rx ry hc hH hns hk1;refine PySem.W.kla_codeExpr (Xp (body (hr.deeper _) [] _ _ H Q I q) (λv s' hs=>?_) λe s' hs=>hs);obtain⟨v',H',J,rv,qv⟩:=hs;exact⟨v',H',J.os,J.bare,J.base,J.hok,rv,qv⟩
def Calls (P:Program) (w:World) (K:PySem.W.Frag) (mg:F3) (base:Heap) (k:Nat) (f:Addr) (r:V->Hp->VK->Prop):Prop :=
 ∀(X:Cx),X.prog=P->X.w=w->X.K=K->X.mg=mg->X.base=base->lI CX0 X E0->Room k X.A->∀pins s U H vx u (Q:VK),Inv X pins U H s->aZ vx u->r vx H Q->wpAny (model X.prog X.w) X.A (call (.ref f) [u]) (EP X pins U Q) X.xe s
def vj (P:Program) (w:World) (K:PySem.W.Frag) (mg:F3) (base:Heap) (k i:Nat) (te:TE):TE:=λU H Q=>∃f l cl c r,U[i]?=some (some (.ref f))/\Calls P w K mg base k f r/\H f=some (iX f l cl c)/\te U H λv H1=>H1 f=some (iX f l cl c)/\r v H1 Q
variable {pins:F2} {X:Cx}
theorem qC {U:St} {l:Lm} (I:Inv X pins U H s) (h:H f=some (iX f l cl c)):PySem.W.FnAt f s.heap:=by
 obtain⟨pm,ctv,e⟩:=(I.hok f _ h).1;exact⟨_,_,_,_,e⟩
theorem vU {k i:Nat} {e:Expr} {te:TE} {p pos:Pos} (hr:Room k X.A) (hx:lI CX0 X E0) (hn:PE X (.Name n p) (bV i)) (he:PE X e te) (hs:starEach [e] X.env=[(false,eval e X.env)]:=by rfl) (hs0:starEach ([]:List Expr) X.env=[]:=by rfl) (hpl:(backTo pos (starEach [] X.env)).any (·.1)=false:=by rfl) :
  PE X (.Call (.Name n p) [e] [] pos) (vj X.prog X.w X.K X.mg X.base k i te):=by
 intro pins s U H Q I h;obtain⟨f,l,cl,c,r,hi,C,hf,h⟩:=h;refine wpAny_Call_Name_kw (thn (hn pins s U H (λv H1=>v=.ref f/\H1=H) I ⟨_,hi,rfl,rfl⟩) λu s1 ⟨v,H1,I1,ru,ev,eh⟩=>?_);subst ev eh;obtain rfl:u=Value.ref f:=ru;refine PySem.W.callWith_F (qC I1 hf) ?_ (by rw[hs,hs0]) hpl;rw[hs];refine Calls.spliced_cons (thn (he pins s1 U H1 _ I1 h) λiv s2 ⟨v,H2,I2,rv,hf2,q⟩=>?_);refine Calls.spliced_nil {qC I2 hf2,?_};exact C X rfl rfl rfl rfl rfl hx hr pins s2 U H2 v iv Q I2 rv q
theorem Inv.cellAt {U:St} {i:Nat} {vy:V} (I:Inv X pins U H s) (hN:X.N[i]?=some y) (hi:U[i]?=some (some vy)) (hk:X.env.kindOf y=some .cell) (hv:Vis X.env.scope y) (hl:X.env.cells.lookup y=some cell) :
  ∃o uy,s.heap.get? cell=some o/\o.data=.cell (some uy)/\aZ vy uy/\H cell=none:=by
 obtain⟨m,_,loc⟩:=I.loc;obtain⟨u,ru,lk⟩:=loc i y vy hN hi hv;rcases lk with⟨k,_⟩|⟨_,c,e,o,e1,e2⟩
 ·rw[hk]at k;cases k
 rw[hl]at e;cases e;exact{o,u,e1,e2,ru,I.freeC y cell hl}
theorem Inv.cellOut {U:St} (I:Inv X pins U H s) (hf:X.fn y=true) (hl:X.env.cells.lookup y=some cell):cell∉frs X.stack:=λz=>by
 have ab:=I.ok.cab y cell hf hl
 have no:cell∉frs X.outer:=λz=>by
  obtain⟨_,o,ho,_⟩:=I.ok.funs.mem z;exact absurd (Ql ho) (Nat.not_lt.mpr ab)
 rcases I.ok.stk with e|⟨e,fr⟩
 ·rw[e]at z;exact no z
 rw[e]at z;unfold frs at z;rw[List.filterMap_cons,fr]at z;rcases QO.mp z with z|z
 ·exact I.cne y cell hl z
 exact no z
def zV (sp:Sp) (i:Nat) (cell:Addr) (t:TA):TE:=λU H Q=>t U H λvs H1=>∃vy,U[i]?=some (some vy)/\∀o uy,o.data=.cell (some uy)->aZ vy uy->H1 cell=none->sp vs (upd H1 cell (cR o)) (λv H2=>Q v (dU H2 cell)) E0
variable {ps loose:List Str}
theorem Ai {k i:Nat} {sp:Sp} {e:Expr} {es:List Expr} {t:TA} {p pos:Pos} (F:Fn X.prog X.w X.K X.mg X.base x ps k sp) (hr:Room k X.A) (hg:Gl X x) (ha:PA X (e::es) t)
  (hN:X.N[i]?=some y) (hky:X.env.kindOf y=some .cell) (hv:Vis X.env.scope y) (hl:X.env.cells.lookup y=some cell) (hfn:X.fn y=true)
  (hdb:(x==("__debug__" : Str))=false:=by decide) (he:starEach (e::es) X.env=(false,eval e X.env)::starEach es X.env:=by rfl) (hpl:(backTo pos (starEach es X.env)).any (·.1)=false:=by rfl) :
  PE X (.Call (.Name x p) (e::es) [] pos) (zV sp i cell t):=by
 obtain⟨f,fd,G,hm,hk,hb⟩:=F.ex;intro pins s U H Q I h;refine wpAny_Call_Name_kw (ot I hg hm ?_ hdb);refine PySem.W.callWith_K (h₀:=X.base) I.ok.mod.kin hk (thn (ha pos pins s U H _ I h) λus s1 ⟨vs,H1,I1,r,q⟩=>{I1.kIn,?_}) he hpl;obtain⟨vy,hi,q⟩:=q;obtain⟨o,uy,e1,e2,ry,hn⟩:=I1.cellAt hN hi hky hv hl;have nf:=I1.cellOut hfn hl;have ab:=I1.ok.cab y cell hfn hl;have e0:=I1.env0
 have e0':Env0 X.prog X.w X.K X.mg X.base X.A X.stack s1 (upd H1 cell (cR o)):={e0.frames,e0.mod,λb ob e=>{(e0.bs b ob e).1,by
  rw[am]
  ·exact(e0.bs b ob e).2
  ·intro z;have:=Ql (I1.ok.bs b ob e).1;rw[z]at this
   exact absurd this (Nat.not_lt.mpr ab)},e0.bsz,e0.funs,λb hb=>by
  rw[am]
  ·exact e0.frf b hb
  intro z;rw[z]at hb;exact nf hb,e0.hok.take hn e1,e0.bare}
 have hl2:us.length=ps.length:=by rw[<-r.length];exact G.len _ _ _ _ (q o uy e2 ry hn)
 refine wpAny_call (codeAny_mono (G.run X.A X.stack s1 _ {us,[]} us vs _ E0 hr e0' (by have:=hb s1 us I1.kIn (by rw[List.append_nil];exact hl2);rwa [List.append_nil]at this) r (q o uy e2 ry hn)) λrr s' hq=>?_)
 cases rr with
 | error e=>exact False.elim hq
 | ok fl =>
 cases fl with
 | ret u =>
  obtain⟨v,H',os,bare,un,hok,rv,qv⟩:=hq;obtain⟨un',hok',_⟩:=un.out hok hn e1 nf;exact I1.after ⟨v,_,os,bare,un',hok',rv,qv⟩
 | next=>exact False.elim hq
 | brk=>exact False.elim hq
 | cont=>exact False.elim hq
structure FunC (K:PySem.W.Frag) (x qual:Str) (st:Stmt) (f:Addr) (fd:FuncData) (c:Addr):Prop where
 ex:∃oc od kV doc pm an ct osl,fd=PySem.W.fnOf x qual (dI st) (cJ st) (aB st) .none kV doc pm an (.ref c) ct/\K.lookup f=some {oc,od,.func (PySem.W.fnOf x qual (dI st) (cJ st) (aB st) .none kV doc pm an (.ref c) ct),osl}/\PySem.W.codeIn K (.ref c) qual=true
section
variable {P:Program} {w:World} {K:PySem.W.Frag} {mg:F3} {base:Heap}
theorem FunC.ok {x qual:Str} {st:Stmt} {f c:Addr} {fd:FuncData} {N ps:List Str} {k:Nat} {sp:Sp} (F:FunC K x qual st f fd c) (S:FnScope N ps (aB st)) (len:∀vs H Q E,sp vs H Q E->vs.length=ps.length)
  (hbody:∀(A:Around) (outer:List Env) (s:Shared) (H:Hp) (vs:List V) (Q:VK) (E:XK),Room k (A.deeper (envOfC qual (aB st) s.heap.objs.size f (.ref c)))->sp vs H Q E ->
   ∃t,PSs (cxOf CX0 P w K mg base N qual (aB st) f (.ref c) A outer s H E).nox (cJ st) t/\t { nx:=λ_ H'=>Q .non H',rt:=Q } (start N vs) H):FnOk P w K mg base CX0 (k+1) f fd ps sp:=by
 obtain⟨oc,od,kV,doc,pm,an,ct,osl,rfl,lk,hcd⟩:=F.ex;refine zN lk hcd S len λA outer s H vs Q E hr hsp=>?_;obtain⟨t,h,q⟩:=hbody A outer s H vs Q E hr hsp;exact⟨t,h.nox,q⟩
end
structure OnlyT (tabs:List (Addr × Addr)) (H:Hp):Prop where
 tab:∀q∈tabs,H q.2=some (.tbl #[])
 other:∀b,b∉tabs.map (·.2)->H b=none\/∃o xs,H b=some (.frz o (.lst xs))
theorem uK {CX:CXT} {k:Nat} {fd:FuncData} {sp:Sp} {vs:List Value} {ns:List Int} {tabs:List (Addr × Addr)}
  (KX:K.In s₁.heap) (hns:s₁.heap.Ns mainGlobals mg) (hb:s₁.heap.Ns builtinsNs mb) (hbb:∀x:Str,x ≠ "__name__" -> mb x=bootBuiltins x) (hlim:s₁.heap.NoLimit) (hg:s₁.gens=#[])
  (hbm:gK s₁.heap mg) (hT:PySem.W.TabsAt tabs s₁.heap) (hTK:∀q∈tabs,K.lookup q.2=none)
  (ha:s₁.heap.get? a=some { cls:=.type "list", data:=.seq vs.toArray }) (hi:IntsAre vs ns) (hl:ns.length<=sizeLine) (hr:Room k callerA)
  (F:∀base:Heap,K.In base->base.Ns mainGlobals mg->gK base mg->FnOk P w K mg base CX k fa fd [x] sp) (hbind:∀(s:Shared) (u:Value),BindsTo s fd {[u],[]} [(x,u)])
  (hsp:∀H:Hp,OnlyT tabs H->SqL K H a (ns.map V.int)->sp [.ref a] H (λv _=>v=.bl true) λ_ _ _=>False)
  (hCX:∀H e s',CX [] H s₁ (λ_ _ _=>False) e s'->False) :
  codeAny (model P w) callerA (.call (.ref fa) {[.ref a],[]}) (λr s'=>r=.ok (.ret (.bool true))/\OldK s₁.heap s'.heap/\s'.os=s₁.os/\AllBare s'.gens) s₁:=by
 have rv:=mn hi;have lenV:=hi.length
 have naT:a∉tabs.map (·.2):=λq=>by
  obtain⟨r,hr,e⟩:=Qj.mp q;have e2:=(hT r hr).2;rw[e,ha]at e2;cases e2
 have core:∀H:Hp,OnlyT tabs H->SqL K H a (ns.map V.int)->HOk P w H s₁.heap->(∀b,H b≠none->b=a\/b∈tabs.map (·.2))->(H a≠none->K.lookup a=none) ->
   codeAny (model P w) callerA (.call (.ref fa) {[.ref a],[]}) (λr s'=>r=.ok (.ret (.bool true))/\OldK s₁.heap s'.heap/\s'.os=s₁.os/\AllBare s'.gens) s₁:=by
  intro H hO hS hok hA hK;have base_of:∀{b:Addr} {o:Obj},s₁.heap.get? b=some o->H b=none->(lY s₁.heap H).get? b=some o:=λe n=>wL e n
  have noA:∀{b:Addr} {o:Obj},s₁.heap.get? b=some o->(∀ps n,o.data≠.seq ps n)->(∀ps,o.data≠.fields ps)->H b=none:=λ{b o} e d1 d2=>by
   cases q:H b with
   | none=>rfl
   | some u =>
   rcases hA b (by rw[q];simp) with e'|e'
   ·subst e';rw[ha]at e;cases e;exact absurd rfl (d1 _ _)
   obtain⟨r,hr,er⟩:=Qj.mp e';have e2:=(hT r hr).2;rw[er,e]at e2;cases e2;exact absurd rfl (d2 _)
  have nsK:∀{b:Addr} {m:F3},s₁.heap.Ns b m->(lY s₁.heap H).Ns b m:=λ{b m} ⟨o,es,ep,e,d,r⟩=>{o,es,ep,base_of e (noA e (λ_ _ z=>by rw[d]at z;cases z) (λ_ z=>by rw[d]at z;cases z)),d,r}
  have hKb:K.In (lY s₁.heap H):=λb o e=>base_of (KX b o e) (by
   cases q:H b with
   | none=>rfl
   | some u =>
   rcases hA b (by rw[q];simp) with e'|e'
   ·subst e';rw[hK (by rw[q];simp)]at e;cases e
   obtain⟨r,hr,er⟩:=Qj.mp e';have e2:=hTK r hr;rw[er,e]at e2
   cases e2)
  have hM:Mod K mg (lY s₁.heap H):={hKb,nsK hns,{mb,nsK hb,hbb},let ⟨mc,h1,h2⟩:=hlim;{mc,nsK h1,h2} }
  have hB:gK (lY s₁.heap H) mg:=by
   obtain⟨bm,ob,b1,b2,b3,b4,b5,b6,b7⟩:=hbm;exact{bm,ob,b1,b2,b3,base_of b4 (noA b4 (λ_ _ z=>by rw[b7]at z;cases z) (λ_ z=>by rw[b7]at z;cases z)),b5,b6,b7}
  have e0:Env0 P w K mg (lY s₁.heap H) callerA [] s₁ H:={rfl,hM,λb o e=>yd e,Nat.le_of_eq (uV _ _),trivial,λb hb=>absurd (show b∈([]:F4) from hb) (by simp),hok,.of_eq hg};refine codeAny_mono ((F _ hKb (nsK hns) hB).run callerA [] s₁ H {[.ref a],[]} [.ref a] [.ref a] _ _ hr e0 (hbind s₁ (.ref a)) (.cons rfl .nil) (hsp H hO hS)) λr s' h=>?_
  cases r with
  | error e=>exact(hCX H e s' h).elim
  | ok fl =>
  cases fl with
  | next=>exact False.elim h
  | brk=>exact False.elim h
  | cont=>exact False.elim h
  | ret u =>
  obtain⟨v,H',os,bare,un,hok',r',q⟩:=h;have q':v=.bl true:=q;subst q';obtain rfl:u=Value.bool true:=r';refine{rfl,{λb o e=>?_,λb o e=>un.there b o e (by simp)},os,bare}
  cases q:H b with
  | none=>exact .inl (un.keep b o e q (by intro z;exact absurd (show b∈([]:F4) from z) (by simp)) (by simp))
  | some u =>
  by_cases hb:b∈tabs.map (·.2)
  ·obtain⟨r,hr,er⟩:=Qj.mp hb;have t1:=hO.tab r hr;have e2:=(hT r hr).2;have ict:=((hT r hr).1.tab (hT r hr).2).isCodeTable;rw[er]at t1 e2 ict;rw[e]at e2;cases e2;obtain⟨more,t2⟩:=un.tbls b _ t1;have t3:s'.heap.get? b=some { cls:=.none,data:=.fields (#[]++more) }:=hok' b _ t2;exact .inr (.inl {ict,rfl,#[],more,rfl,t3})
  rcases hO.other b hb with z|⟨ob,xs,z⟩
  ·rw[q]at z;cases z
  have z2:=un.frzs b ob _ z;obtain⟨e1,_⟩:=hok b _ z;obtain⟨e2,_⟩:=hok' b _ z2;rw[e]at e1;cases e1;exact .inl e2
 let HT:Hp:=λb=>if b∈tabs.map (·.2) then some (.tbl #[]) else none
 have htab:∀b,b∈tabs.map (·.2)->s₁.heap.get? b=some (PySem.W.tabObj #[]):=λb hb=>by
  obtain⟨r,hr,er⟩:=Qj.mp hb;rw[<-er];exact(hT r hr).2
 cases hk:K.lookup a with
 | some o =>
  have e:=KX a o hk;rw[ha]at e;cases e;refine core HT {λq hq=>QL (Qj.mpr ⟨q,hq,rfl⟩),λb hb=>.inl (QI hb)} (.inr {_,vs.toArray,_,hk,rfl,rfl,rfl,by rw[Qm,lenV];exact hl,by simpa using rv}) (λb u z=>?_) (λb z=>?_) λz=>absurd (QI naT) z
  ·by_cases hb:b∈tabs.map (·.2)
   ·have z':=(QL hb).symm.trans z;cases z';exact htab b hb
   have z':=(QI hb).symm.trans z;cases z'
  by_cases hb:b∈tabs.map (·.2)
  ·exact .inr hb
  exact absurd (QI hb) z
 | none =>
 let HA:Hp:=λb=>if b=a then some (.frz { cls:=.type "list", data:=.seq vs.toArray } (.lst (ns.map V.int))) else HT b;have hA1:HA a=some (.frz { cls:=.type "list", data:=.seq vs.toArray } (.lst (ns.map V.int))):=QL rfl;have hA2:∀b,b≠a->HA b=HT b:=λb h=>QI h;refine core HA {λq hq=>?_,λb hb=>?_} (.inl (.inr { { cls:=.type "list", data:=.seq vs.toArray },hA1})) (λb u z=>?_) (λb z=>?_) λ_=>hk
 ·rw[hA2 _ λz=>naT (Qj.mpr ⟨q,hq,z⟩)];exact QL (Qj.mpr ⟨q,hq,rfl⟩)
 ·by_cases hba:b=a
  ·subst hba;exact .inr ⟨_,_,hA1⟩
  rw[hA2 b hba];exact .inl (QI hb)
 ·by_cases hba:b=a
  ·subst hba;rw[hA1]at z;cases z;exact{ha,by rw[Qa];exact hl,vs,_,rv,ha}
  rw[hA2 b hba]at z;by_cases hb:b∈tabs.map (·.2)
  ·have z':=(QL hb).symm.trans z;cases z';exact htab b hb
  have z':=(QI hb).symm.trans z;cases z'
 by_cases hba:b=a
 ·exact .inl hba
 rw[hA2 b hba]at z;by_cases hb:b∈tabs.map (·.2)
 ·exact .inr hb
 exact absurd (QI hb) z
theorem xi {mean:ExcName->Option Value} (T:Top p loose mean mg mb h):gK h mg:=by
 obtain⟨bm,ob,b1,b2,b3,b4,b5,b6⟩:=T.bmain;refine{bm,ob,b1,b2,λq=>?_,b3,b4,b5,b6};obtain⟨o,es,ep,e,hd,_⟩:=T.g;rw[q,e]at b3;cases b3;rw[hd]at b6;cases b6
variable {XP:F3->Heap->Prop} {l:PySem.W.OpenLaw}
theorem vd {n k:Nat} {YP:World->Heap->Prop} {d:DefRec} {K:Params->PySem.W.Frag} {CX:World->CXT} {sp:World->Sp} (tabs:World->List (Addr × Addr))
  (hn:l.most=some n) (hn2:n<=sizeLine) (hdf:d.params.defaults=[]) (hr:Room k callerA)
  (hY:∀(w:World) (h:Heap),YP w h->(K w.params).In h) (hY2:∀(w:World) (h:Heap),YP w h->PySem.W.TabsAt (tabs w) h) (hTK:∀(w:World),∀q∈tabs w,(K w.params).lookup q.2=none)
  (F:∀(w:World) (mg:F3) (fa:Addr) (h:Heap),(K w.params).In h->h.Ns mainGlobals mg->mg d.name=some (.ref fa) ->
   ∃fd:FuncData,(∀(s:Shared) (u:Value),BindsTo s fd {[u],[]} [(x,u)]) /\
    ∀base:Heap,(K w.params).In base->base.Ns mainGlobals mg->gK base mg->FnOk l.prog w (K w.params) mg base (CX w) k fa fd [x] (sp w))
  (hsp:∀(w:World) (H:Hp) (a:Addr) (ns:List Int),ns.length<=n->OnlyT (tabs w) H->SqL (K w.params) H a (ns.map V.int)->sp w [.ref a] H (λv _=>v=.bl true) λ_ _ _=>False)
  (hCX:∀(w:World) (H:Hp) (s:Shared) (e:Value) (s':Shared),CX w [] H s (λ_ _ _=>False) e s'->False) :
  PySem.W.WalkO q loose XP YP l.row.toRowW d [] (λf vs=>PySem.call f vs):=by
 refine Att.qJ hn hdf λw s₀ s₁ mg mb fa o pm cd doc a vs ns G Y ho hd hcd hmg hobj hints hlen hg=>?_;have KX:=hY w _ Y;obtain⟨fd,hb,hF⟩:=F w mg fa _ KX G.T.g hmg;exact uK KX G.T.g G.T.b G.T.builtins G.T.nolimit hg (xi G.T) (hY2 w _ Y) (hTK w) hobj hints (QX hlen hn2) hr hF hb (λH hO hS=>hsp w H a ns hlen hO hS) λH e s'=>hCX w H s₁ e s'
def rN (K:PySem.W.Frag) (ts:F4):List (Addr × Addr):=ts.flatMap λT=>(K.filter λp=>PySem.W.codeHdIn K p.1 T).map λp=>(p.1,T)
def ip (K:PySem.W.Frag) (ts:F4):Bool:=ts.all λT=>(K.any λp=>PySem.W.codeHdIn K p.1 T)&&(K.lookup T).isNone
variable {ts as:F4}
theorem kL {q:Addr × Addr} (h:q∈rN K ts):q.2∈ts/\PySem.W.codeHdIn K q.1 q.2=true:=by
 obtain⟨T,hT,h⟩:=List.mem_flatMap.mp h;obtain⟨p,hp,rfl⟩:=Qj.mp h;exact{hT,(List.mem_filter.mp hp).2}
theorem rM (ok:ip K ts=true) (hT:T∈ts):∃c,(c,T)∈rN K ts:=by
 have h:=QN.mp ok T hT;rw[Xm]at h;obtain⟨p,hp,e⟩:=List.any_eq_true.mp h.1;exact{p.1,List.mem_flatMap.mpr {T,hT,Qj.mpr {p,List.mem_filter.mpr ⟨hp,e⟩,rfl} } }
theorem rL (ok:ip K ts=true) (hT:T∈ts):K.lookup T=none:=by
 have h:=QN.mp ok T hT;rw[Xm]at h;exact Option.isNone_iff_eq_none.mp h.2
theorem ve {n k:Nat} {d:DefRec} {K:Params->PySem.W.Frag} {e:∀P,as=(K P).map (·.1)} {CX:World->CXT} {sp:World->Sp}
  (hn:l.most=some n) (hn2:n<=sizeLine) (hdf:d.params.defaults=[]) (hr:Room k callerA) (ok:∀w:World,ip (K w.params) ts=true)
  (F:∀(w:World) (mg:F3) (fa:Addr) (h:Heap),(K w.params).In h->h.Ns mainGlobals mg->mg d.name=some (.ref fa) ->
   ∃fd:FuncData,(∀(s:Shared) (u:Value),BindsTo s fd {[u],[]} [(x,u)]) /\
    ∀base:Heap,(K w.params).In base->base.Ns mainGlobals mg->gK base mg->FnOk l.prog w (K w.params) mg base (CX w) k fa fd [x] (sp w))
  (hsp:∀(w:World) (H:Hp) (a:Addr) (ns:List Int),ns.length<=n->(∀T∈ts,H T=some (.tbl #[]))->SqL (K w.params) H a (ns.map V.int)->sp w [.ref a] H (λv _=>v=.bl true) λ_ _ _=>False)
  (hCX:∀(w:World) (H:Hp) (s:Shared) (e:Value) (s':Shared),CX w [] H s (λ_ _ _=>False) e s'->False) :
  PySem.W.WalkO q loose XP (PySem.W.kmHook K as e ts).says l.row.toRowW d [] (λf vs=>PySem.call f vs):=by
 refine vd (λw=>rN (K w.params) ts) hn hn2 hdf hr (λw h Y=>PySem.W.km_in_of Y) (λw h Y q hq=>?_) (λw q hq=>rL (ok w) (kL hq).1) F (λw H a ns h1 hO hS=>hsp w H a ns h1 (λT hT=>?_) hS) hCX
 ·obtain⟨h1,h2⟩:=kL hq;exact{PySem.W.codeHd_of_K (PySem.W.km_in_of Y) h2,PySem.W.km_tabs_of Y _ h1}
 obtain⟨c,hc⟩:=rM (ok w) hT;exact hO.tab _ hc
end L2
set_option maxHeartbeats 1000000
namespace Tm
open PySem PyProof.Rows
def oB:Bool->Keyed->Array Keyed->Nat->Nat->Nat->StateT SortSt Sem (Option Nat):=sortPriv% PySem.Builtin.gallop
def qo:Array Keyed->Array Keyed->StateT SortSt Sem (Array Keyed):=sortPriv% PySem.Builtin.mergeLo
def qp:Array Keyed->Array Keyed->StateT SortSt Sem (Array Keyed):=sortPriv% PySem.Builtin.mergeHi
def iW (κ:KeyKind) (kd:SortKind) (prog:Program) (w:World) (A:Around) (s:Shared):Prop :=
 ∀(E:F1) (x y:Value) (a b:κ.α) (Q:Bool->Shared->Prop),κ.keyOf x=some a->κ.keyOf y=some b->Q (κ.blt a b) s->wpAny (model prog w) A (keyLt' kd x y) Q E s
def kv (κ:KeyKind) (p:Keyed):κ.α:=(κ.keyOf p.1).getD κ.dflt
def Hk (κ:KeyKind) (p:Keyed):Prop:=∃a,κ.keyOf p.1=some a
variable {prog:Program} {w:World} {A:Around} {E:F1} {s:Shared} {κ:KeyKind} {kd:SortKind}
section
theorem aX {U α:Type} {M:Model} {Q:α->U->Prop} {st:U} {c:Prop} [Decidable c] {t e:StateT U Sem α} (h:c) (q:wpS M A E s t Q st):wpS M A E s (if c then t else e) Q st:=by rw[QL h];exact q
theorem aW {U α:Type} {M:Model} {Q:α->U->Prop} {st:U} {c:Prop} [Decidable c] {t e:StateT U Sem α} (h:¬c) (q:wpS M A E s e Q st):wpS M A E s (if c then t else e) Q st:=by rw[QI h];exact q
variable {i j base n hint:Nat}
theorem bT (h:i=j):(i==j)=true:=by simp[h]
theorem bF (h:¬i=j):¬(i==j)=true:=by simpa using h
variable {Q:Option Bool->SortSt->Prop} {x y p key:Keyed} {st:SortSt}
theorem jG (hL:iW κ kd prog w A s) (hk:kindOf st=kd) (hx:Hk κ x) (hy:Hk κ y) (h:Q (some (κ.blt (kv κ x) (kv κ y))) st):wpS (model prog w) A E s (lt' x y) Q st:=by
 obtain⟨a,ha⟩:=hx;obtain⟨b,hb⟩:=hy;rw[lt'_eq];refine Qu (wpS_get ?_);rw[hk];refine Qu (wpS_lift (wpAny_attempt (hL _ _ _ _ _ _ ha hb {rfl,?_})));unfold kv at h;rw[ha,hb]at h;exact Qy h
variable {arr:Array Keyed}
theorem be {Q:Keyed->SortSt->Prop} (h:arr[i]?=some p) (q:Q p st):wpS (model prog w) A E s (elem' arr i) Q st:=by
 rw[elem'_eq,h];exact Qy q
def bey (κ:KeyKind) (left:Bool) (key p:Keyed):Bool:=if left then κ.blt (kv κ p) (kv κ key) else !κ.blt (kv κ key) (kv κ p)
theorem d9 (hL:iW κ kd prog w A s) {left:Bool} {b:Bool} (hk:kindOf st=kd) (hkey:Hk κ key)
  (hP:∃p,arr[j]?=some p/\Hk κ p/\bey κ left key p=b) (h:Q (some b) st) :
  wpS (model prog w) A E s (elem' arr j >>= λx=>if left=true then lt' x key else lt' key x >>= λr=>pure (Option.map (λz=>!z) r)) Q st:=by
 obtain⟨p,hp,hkp,rfl⟩:=hP;refine Qu (be hp ?_);unfold bey at h
 cases left with
 | true=>exact jG hL hk hkp hkey h
 | false=>exact Qu (jG hL hk hkey hkp (Qy h))
theorem qN (hL:iW κ kd prog w A s) {left:Bool} {Q:Option Nat->SortSt->Prop} (P:Nat->Bool) (hk:kindOf st=kd) (hkey:Hk κ key)
  (hP:∀i,i<n->∃p,arr[base+i]?=some p/\Hk κ p/\bey κ left key p=P i) (mono:∀i j,i<=j->j<n->P j=true->P i=true) (hh:hint<n)
  (h:∀k,k<=n->(∀i,i<k->P i=true)->(∀i,k<=i->i<n->P i=false)->Q (some k) st):wpS (model prog w) A E s (oB left key arr base n hint) Q st:=by
 have monoF:∀i j,i<=j->j<n->P i=false->P j=false:=λi j h1 h2 h3=>by
  cases e:P j with
  | false=>rfl
  | true=>rw[mono i j h1 h2 e]at h3;cases h3
 unfold oB;refine Qu (d9 hL hk hkey (hP hint hh) ?_)
 have fin:∀(lo hi:Nat) (F:(Option (Option Nat) × Nat × Nat)->StateT SortSt Sem (Option Nat)) (body:Nat->(Option (Option Nat) × Nat × Nat)->StateT SortSt Sem (ForInStep (Option (Option Nat) × Nat × Nat))),lo<=hi->hi<=n->(∀i,i<lo->P i=true)->(∀i,hi<=i->i<n->P i=false) ->
   (∀l k,F (none,l,k)=pure (some k))->(∀x l k (R:ForInStep (Option (Option Nat) × Nat × Nat)->SortSt->Prop),l<=k->k<=n->(l=k->R (.done (none,l,k)) st)->(l<k->P (l+(k-l) / 2)=true->R (.yield (none,l+(k-l) / 2+1,k)) st)->(l<k->P (l+(k-l) / 2)=false->R (.yield (none,l,l+(k-l) / 2)) st)->wpS (model prog w) A E s (body x (none,l,k)) R st) ->
   wpS (model prog w) A E s (forIn [0:n] (none,lo,hi) body >>= F) Q st:=λlo hi F body h1 h2 h3 h4 hF hb=>by
  refine Qu (wpS_mono (Xv (I:=λx c st'=>st'=st/\∃l k,c=(none,l,k)/\l<=k/\k<=n/\k-l<=n-x/\(∀i,i<l->P i=true)/\(∀i,k<=i->i<n->P i=false))
   (Q:=λc st'=>st'=st/\∃k,c=(none,k,k)/\k<=n/\(∀i,i<k->P i=true)/\(∀i,k<=i->i<n->P i=false)) ?_ ?_ {rfl,lo,hi,rfl,h1,h2,by exact E8 h1 h2,h3,h4}) ?_)
  ·rintro x c st' _ hx ⟨rfl,l,k,rfl,a1,a2,a3,a4,a5⟩;refine hb x l k _ a1 a2 (λe=>?_) (λe p=>?_) (λe p=>?_)
   ·subst e;exact⟨rfl,l,rfl,a2,a4,a5⟩
   ·exact{rfl,_,k,rfl,by exact E7 e,a2,BC a3,λi hi=>mono i _ (by exact E6 hi) (by exact E5 a2 e) p,a5}
   exact{rfl,l,_,rfl,by exact E4,by exact E3 a2 e,BB a3 e,a4,λi h1 h2=>monoF _ i h1 h2 p}
  ·rintro c st' ⟨rfl,l,k,rfl,a1,a2,a3,a4,a5⟩;have:l=k:=by exact B0 a1 a3
   subst this;exact⟨rfl,l,rfl,a2,a4,a5⟩
  rintro c st' ⟨rfl,k,rfl,a2,a4,a5⟩;rw[hF];exact Qy (h k a2 a4 a5)
 dsimp only
 cases hp:P hint with
 | true =>
  refine aX rfl ?_
  refine Qu (wpS_mono (Xv (I:=λx c st'=>st'=st/\∃l o,c=(none,l,o)/\l<o/\x+1<=o/\hint+l<n/\P (hint+l)=true)
   (Q:=λc st'=>st'=st/\∃l o,c=(none,l,o)/\l<o/\hint+l<n/\P (hint+l)=true/\(o<n-hint->P (hint+o)=false)) ?_ ?_ {rfl,0,1,rfl,⋯,⋯,by exact E2 hh,hp}) ?_)
  ·rintro x c st' _ hx ⟨rfl,l,o,rfl,a1,a2,a3,a4⟩;dsimp only;by_cases c1:o>=n-hint
   ·refine aX c1 ?_;exact Qy {rfl,l,o,rfl,a1,a3,a4,λz=>by omega}
   refine aW c1 ?_;refine Qu (d9 hL hk hkey (hP (hint+o) (by exact BX hh c1)) ?_);dsimp only
   cases e:P (hint+o) with
   | true =>
    refine aW Qn ?_;exact Qy {rfl,o,2*o+1,rfl,by exact BT,⋯,by exact BX hh c1,e}
   | false =>
   refine aX rfl ?_;exact Qy {rfl,l,o,rfl,a1,a3,a4,λ_=>e}
  ·rintro c st' ⟨rfl,l,o,rfl,a1,a2,a3,a4⟩;exact{rfl,l,o,rfl,a1,a3,a4,λz=>by omega}
  rintro c st' ⟨rfl,l,o,rfl,a1,a3,a4,a5⟩;dsimp only;refine fin _ _ _ _ (by exact E1 hh a1 a3) (by exact EZ hh) (λi hi=>mono i (hint+l) (by exact EY hi) a3 a4) (λi h1 h2=>?_) (λl k=>rfl) ?_
  ·by_cases z:o<n-hint
   ·exact monoF (hint+o) i (by exact EX hh h1 z) h2 (a5 z)
   omega
  intro x l k R h1 h2 q1 q2 q3;dsimp only;by_cases c:l>=k
  ·refine aX c ?_;exact Qy (q1 (by exact Ax h1 c))
  refine aW c ?_;refine Qu (d9 hL hk hkey (hP _ (by exact BS h2 c)) ?_);dsimp only
  cases e:P (l+(k-l) / 2) with
  | true=>refine aX rfl ?_;exact Qy (q2 (by exact xS c) e)
  | false=>refine aW Qn ?_;exact Qy (q3 (by exact xS c) e)
 | false =>
 refine aW Qn ?_
 refine Qu (wpS_mono (Xv (I:=λx c st'=>st'=st/\∃l o,c=(none,l,o)/\l<o/\x+1<=o/\l<=hint/\P (hint-l)=false)
  (Q:=λc st'=>st'=st/\∃l o,c=(none,l,o)/\l<o/\l<=hint/\P (hint-l)=false/\(o<hint+1->P (hint-o)=true)) ?_ ?_ {rfl,0,1,rfl,⋯,⋯,by exact Aw,hp}) ?_)
 ·rintro x c st' _ hx ⟨rfl,l,o,rfl,a1,a2,a3,a4⟩;dsimp only;by_cases c1:o>=hint+1
  ·refine aX c1 ?_;exact Qy {rfl,l,o,rfl,a1,a3,a4,λz=>by omega}
  refine aW c1 ?_;refine Qu (d9 hL hk hkey (hP (hint-o) (by exact EW hh a1 c1)) ?_);dsimp only
  cases e:P (hint-o) with
  | true =>
   refine aX rfl ?_;exact Qy {rfl,l,o,rfl,a1,a3,a4,λ_=>e}
  | false =>
  refine aW Qn ?_;exact Qy {rfl,o,2*o+1,rfl,by exact BT,⋯,by exact EV c1,e}
 ·rintro c st' ⟨rfl,l,o,rfl,a1,a2,a3,a4⟩;exact{rfl,l,o,rfl,a1,a3,a4,λz=>by omega}
 rintro c st' ⟨rfl,l,o,rfl,a1,a3,a4,a5⟩;dsimp only;refine fin _ _ _ _ (by exact EU a1 a3) (by exact ET hh a3) (λi hi=>?_) (λi h1 h2=>monoF (hint-l) i h1 h2 a4) (λl k=>rfl) ?_
 ·by_cases z:o<hint+1
  ·exact mono i (hint-o) (by exact ES hi z) (by exact ER hh a1 z) (a5 z)
  omega
 intro x l k R h1 h2 q1 q2 q3;dsimp only;by_cases c:l>=k
 ·refine aX c ?_;exact Qy (q1 (by exact Ax h1 c))
 refine aW c ?_;refine Qu (d9 hL hk hkey (hP _ (by exact BS h2 c)) ?_);dsimp only
 cases e:P (l+(k-l) / 2) with
 | true=>refine aX rfl ?_;exact Qy (q2 (by exact xS c) e)
 | false=>refine aW Qn ?_;exact Qy (q3 (by exact xS c) e)
end
section
variable {κ:KeyKind}
def le (κ:KeyKind) (p q:Keyed):Prop:=κ.kle (kv κ p) (kv κ q)
structure MI (κ:KeyKind) (L o x y:List Keyed):Prop where
 perm:(o++(x++y)).Perm L
 so:o.Pairwise (le κ)
 sx:x.Pairwise (le κ)
 sy:y.Pairwise (le κ)
 ox:∀p∈o,∀q∈x,le κ p q
 oy:∀p∈o,∀q∈y,le κ p q
 last:∀q∈y,∀l,x.getLast?=some l->le κ q l
variable {L o x2 y x y2:List Keyed}
theorem MI.takeXs {x1:List Keyed} (h:MI κ L o (x1++x2) y) (hq:∀p∈x1,∀q∈y,le κ p q):MI κ L (o++x1) x2 y:=by
 have sx:=Xf.mp h.sx;refine{?_,Xf.mpr {h.so,sx.1,λp hp q hq=>h.ox p hp q (Qp.mpr (.inl hq))},sx.2.1,h.sy,λp hp q hq'=>?_,λp hp q hq'=>?_,λq hq' l hl=>?_}
 ·have:=h.perm;rwa [Xa,<-Xa o]at this
 ·rcases Qp.mp hp with a|a
  ·exact h.ox p a q (Qp.mpr (.inr hq'))
  exact sx.2.2 p a q hq'
 ·rcases Qp.mp hp with a|a
  ·exact h.oy p a q hq'
  exact hq p a q hq'
 refine h.last q hq' l ?_;rw[List.getLast?_append,hl];rfl
theorem MI.takeYs {y1:List Keyed} (h:MI κ L o x (y1++y2)) (hq:∀q∈y1,∀p∈x,le κ q p):MI κ L (o++y1) x y2:=by
 have sy:=Xf.mp h.sy;refine{?_,Xf.mpr {h.so,sy.1,λp hp q hq=>h.oy p hp q (Qp.mpr (.inl hq))},h.sx,sy.2.1,λp hp q hq'=>?_,λp hp q hq'=>?_,λq hq' l hl=>?_}
 ·refine List.Perm.trans ?_ h.perm;rw[Xa];refine List.Perm.append_left _ ?_;rw[<-Xa,<-Xa];exact List.Perm.append_right _ List.perm_append_comm
 ·rcases Qp.mp hp with a|a
  ·exact h.ox p a q hq'
  exact hq p a q hq'
 ·rcases Qp.mp hp with a|a
  ·exact h.oy p a q (Qp.mpr (.inr hq'))
  exact sy.2.2 p a q hq'
 exact h.last q (Qp.mpr (.inr hq')) l hl
variable {p q r l:Keyed}
theorem le_trans (a:le κ p q) (b:le κ q r):le κ p r:=KeyOrd.kle_trans a b
theorem gu (s:(p::x).Pairwise (le κ)) (h:le κ q p) (hr:r∈p::x):le κ q r:=by
 rcases QO.mp hr with e|e
 ·rw[e];exact h
 exact le_trans h ((List.pairwise_cons.mp s).1 r e)
theorem MI.takeY (h:MI κ L o (p::x) (q::y)) (c:le κ q p):MI κ L (o++[q]) (p::x) y :=
 MI.takeYs (y1:=[q]) h λr hr s hs=>by
  have e:r=q:=by simpa using hr
  subst e;exact gu h.sx c hs
theorem MI.takeX (h:MI κ L o (p::x) (q::y)) (c:le κ p q):MI κ L (o++[p]) x (q::y) :=
 MI.takeXs (x1:=[p]) h λr hr s hs=>by
  have e:r=p:=by simpa using hr
  subst e;exact gu h.sy c hs
def Srt (κ:KeyKind) (L r:List Keyed):Prop:=r.Perm L/\r.Pairwise (le κ)
theorem MI.endY (h:MI κ L o x []):Srt κ L (o++x):={by simpa using h.perm,Xf.mpr ⟨h.so,h.sx,h.ox⟩}
theorem MI.endX (h:MI κ L o [] y):Srt κ L (o++y):={by simpa using h.perm,Xf.mpr ⟨h.so,h.sy,h.oy⟩}
theorem MI.lastX (h:MI κ L o [l] y):Srt κ L (o++y++[l]):=by
 refine{List.Perm.trans ?_ h.perm,Xf.mpr {Xf.mpr ⟨h.so,h.sy,h.oy⟩,by simp,λp hp q hq=>?_} }
 ·rw[Xa];exact List.Perm.append_left _ List.perm_append_comm
 have e:q=l:=by simpa using hq
 subst e;rcases Qp.mp hp with a|a
 ·exact h.ox p a q (by simp)
 exact h.last p a q rfl
end
section
structure Gs (st st':SortSt):Prop where
 kind:kindOf st'=kindOf st
 arr:arrOf st'=arrOf st
 pend:pendingOf st'=pendingOf st
 fail:failedOf st'=failedOf st
theorem Gs.refl (st:SortSt):Gs st st:=⟨rfl,rfl,rfl,rfl⟩
theorem Gs.trans {a b c:SortSt} (x:Gs a b) (y:Gs b c):Gs a c:={y.kind.trans x.kind,y.arr.trans x.arr,y.pend.trans x.pend,y.fail.trans x.fail}
def sP:Nat->StateT SortSt Sem Unit:=sortPriv% PySem.Builtin.setMinGallop
variable {g ia ib n m i j:Nat}
theorem fu {st:SortSt} {Q:Unit->SortSt->Prop} (h:∀st',Gs st st'->Q () st'):wpS (model prog w) A E s (sP g) Q st:=by
 unfold sP;exact wpS_modify (h _ ⟨rfl,rfl,rfl,rfl⟩)
theorem iS (a:Array Keyed) (i:Nat):(a.extract i a.size).toList=a.toList.drop i:=by
 have:(a.toList.drop i).length<=a.size-i:=by simp
 simpa using Qw this
theorem jC (a:Array Keyed) (i k:Nat):(a.extract i (i+k)).toList=(a.toList.drop i).take k:=by
 simp
theorem a_ {a:Array Keyed} {i:Nat} (h:i<a.size):∃p,a[i]?=some p/\a.toList.drop i=p::a.toList.drop (i+1)/\p∈a.toList :=
 {a[i],Q5 h,by rw[List.drop_eq_getElem_cons (by simpa using h)];simp,by simp}
structure LJ (κ:KeyKind) (a b:Array Keyed) (n:Nat) (out:Array Keyed) (ia ib:Nat):Prop where
 mi:MI κ (a.toList++b.toList) out.toList (a.toList.drop ia) (b.toList.drop ib)
 la:ia<=a.size
 lb:ib<=b.size
 lo:out.size=ia+ib
 n:n<=out.size
variable {a b:Array Keyed}
theorem LJ.less {out:Array Keyed} (h:LJ κ a b n out ia ib) (hm:m<=n):LJ κ a b m out ia ib:={h.mi,h.la,h.lb,h.lo,QX hm h.n}
theorem LJ.doneB {out:Array Keyed} (h:LJ κ a b n out ia ib) (e:ib=b.size):Srt κ (a.toList++b.toList) (out++a.extract ia a.size++b.extract ib b.size).toList:=by
 have m:=h.mi;have d:b.toList.drop ib=[]:=by rw[e];simp
 rw[d]at m;rw[QP,QP,iS,iS,d,List.append_nil];exact m.endY
theorem LJ.doneA {out:Array Keyed} (h:LJ κ a b n out ia ib) (e:ia=a.size):Srt κ (a.toList++b.toList) (out++a.extract ia a.size++b.extract ib b.size).toList:=by
 have m:=h.mi;have d:a.toList.drop ia=[]:=by rw[e];simp
 rw[d]at m;rw[QP,QP,iS,iS,d,List.append_nil];exact m.endX
theorem LJ.lastA {out:Array Keyed} (h:LJ κ a b n out ia ib) (e:ia+1=a.size):Srt κ (a.toList++b.toList) (out++b.extract ib b.size++a.extract ia a.size).toList:=by
 have m:=h.mi;obtain⟨p,_,d,_⟩:=a_ (a:=a) (i:=ia) (by exact EQ e);have d2:a.toList.drop (ia+1)=[]:=by rw[e];simp
 rw[d2]at d;rw[d]at m;rw[QP,QP,iS,iS,d];exact m.lastX
variable {p q key:Keyed}
theorem LJ.pushB {out:Array Keyed} (h:LJ κ a b n out ia ib) (ha:a[ia]?=some p) (hb:b[ib]?=some q) (c:le κ q p):LJ κ a b (n+1) (out.push q) ia (ib+1):=by
 have lb:=(Q7.mp hb).1;have la:=(Q7.mp ha).1;obtain⟨p',e1,d1,_⟩:=a_ la;obtain⟨q',e2,d2,_⟩:=a_ lb;rw[ha]at e1;rw[hb]at e2;cases e1;cases e2;have m:=h.mi;rw[d1,d2]at m;have m:=m.takeY c;rw[<-d1]at m;refine{by rw[Array.toList_push];exact m,h.la,lb,by rw[Array.size_push,h.lo];exact EO,by rw[Array.size_push];have:=h.n;exact uv this}
theorem LJ.pushA {out:Array Keyed} (h:LJ κ a b n out ia ib) (ha:a[ia]?=some p) (hb:b[ib]?=some q) (c:le κ p q):LJ κ a b (n+1) (out.push p) (ia+1) ib:=by
 have lb:=(Q7.mp hb).1;have la:=(Q7.mp ha).1;obtain⟨p',e1,d1,_⟩:=a_ la;obtain⟨q',e2,d2,_⟩:=a_ lb;rw[ha]at e1;rw[hb]at e2;cases e1;cases e2;have m:=h.mi;rw[d1,d2]at m;have m:=m.takeX c;rw[<-d2]at m;refine{by rw[Array.toList_push];exact m,la,h.lb,by rw[Array.size_push,h.lo];exact EN,by rw[Array.size_push];have:=h.n;exact uv this}
theorem LJ.runA {out:Array Keyed} {k:Nat} (h:LJ κ a b n out ia ib) (hb:b[ib]?=some q) (hk:ia+k<=a.size) (c:∀i,i<k->∀p,a[ia+i]?=some p->le κ p q):LJ κ a b n (out++a.extract ia (ia+k)) (ia+k) ib:=by
 have lb:=(Q7.mp hb).1;obtain⟨q',e2,d2,_⟩:=a_ lb;rw[hb]at e2;cases e2;have m:=h.mi;have sy:=m.sy;rw[<-QZ k (a.toList.drop ia)]at m
 have m:=m.takeXs λp hp r hr=>by
  obtain⟨i,hi,e⟩:=Qo.mp hp;rw[Qv]at hi;have e3:=Qc (l:=(a.toList.drop ia).take k) (i:=i) (by rw[Qv];exact BR hi);rw[e,List.getElem?_take,QL (by exact xR hi),List.getElem?_drop,QA]at e3;rw[d2]at hr sy;exact gu sy (c i (by exact xR hi) p e3) hr
 rw[List.drop_drop]at m;have sz:(a.extract ia (ia+k)).size=k:=by rw[Array.size_extract];exact BQ hk
 refine{by rw[QP,jC];exact m,hk,h.lb,by rw[Xu,sz,h.lo];exact EM,by rw[Xu];have:=h.n;exact BP sz this}
theorem LJ.runB {out:Array Keyed} {k:Nat} (h:LJ κ a b n out ia ib) (ha:a[ia]?=some p) (hk:ib+k<=b.size) (c:∀i,i<k->∀q,b[ib+i]?=some q->le κ q p):LJ κ a b n (out++b.extract ib (ib+k)) ia (ib+k):=by
 have la:=(Q7.mp ha).1;obtain⟨p',e2,d2,_⟩:=a_ la;rw[ha]at e2;cases e2;have m:=h.mi;have sx:=m.sx;rw[<-QZ k (b.toList.drop ib)]at m
 have m:=m.takeYs λq hq r hr=>by
  obtain⟨i,hi,e⟩:=Qo.mp hq;rw[Qv]at hi;have e3:=Qc (l:=(b.toList.drop ib).take k) (i:=i) (by rw[Qv];exact BR hi);rw[e,List.getElem?_take,QL (by exact xR hi),List.getElem?_drop,QA]at e3;rw[d2]at hr sx;exact gu sx (c i (by exact xR hi) q e3) hr
 rw[List.drop_drop]at m;have sz:(b.extract ib (ib+k)).size=k:=by rw[Array.size_extract];exact BQ hk
 refine{by rw[QP,jC];exact m,h.la,hk,by rw[Xu,sz,h.lo];exact EL,by rw[Xu];have:=h.n;exact BP sz this}
theorem tw (s:a.toList.Pairwise (le κ)) (h:i<=j) (hi:a[i]?=some p) (hj:a[j]?=some q):le κ p q:=by
 by_cases e:i=j
 ·subst e;rw[hi]at hj;cases hj;exact XQ _
 have li:=(Q7.mp hi).1;have lj:=(Q7.mp hj).1;have:=(List.pairwise_iff_getElem.mp s) i j (by simpa using li) (by simpa using lj) (by exact BO h e);rw[Q5 li]at hi;rw[Q5 lj]at hj;cases hi;cases hj;simpa using this
theorem gg (hL:iW κ kd prog w A s) {st:SortSt} {left:Bool} {a:Array Keyed} {base n hint:Nat} {Q:Option Nat->SortSt->Prop} (hk:kindOf st=kd) (hkey:Hk κ key) (ha:∀p∈a.toList,Hk κ p) (hn:base+n<=a.size)
  (sa:∀i j p q,base<=i->i<=j->j<base+n->a[i]?=some p->a[j]?=some q->le κ p q) (hh:hint<n)
  (h:∀k,k<=n->(∀i,i<k->∀p,a[base+i]?=some p->bey κ left key p=true)->(∀i,k<=i->i<n->∀p,a[base+i]?=some p->bey κ left key p=false)->Q (some k) st):wpS (model prog w) A E s (oB left key a base n hint) Q st:=by
 refine qN hL (λi=>match a[base+i]? with|some p=>bey κ left key p|none=>false) hk hkey (λi hi=>?_) (λi j h1 h2 h3=>?_) hh (λk h1 h2 h3=>h k h1 (λi hi p e=>?_) (λi hi hj p e=>?_))
 ·have:base+i<a.size:=by exact BN hn hi
  obtain⟨p,e,_,m⟩:=a_ this;exact{p,e,ha p m,by rw[e]}
 ·obtain⟨p,e,_⟩:=a_ (a:=a) (i:=base+i) (by exact EK hn h1 h2);obtain⟨q,e2,_⟩:=a_ (a:=a) (i:=base+j) (by exact BN hn h2);have l:=sa _ _ p q (by exact v5) (show base+i<=base+j by exact EJ h1) (by exact EI h2) e e2;rw[e2]at h3;rw[e];dsimp only at h3 ⊢;unfold bey at h3 ⊢
  cases left with
  | true =>
   rw[QL rfl]at h3 ⊢;exact KeyOrd.klt_of_kle_of_klt l h3
  | false =>
  rw[QI (by simp)]at h3 ⊢;have h3:κ.kle (kv κ q) (kv κ key):=by simpa[KeyOrd.kle] using h3
  have:=KeyOrd.kle_trans l h3;simpa[KeyOrd.kle] using this
 ·have:=h2 i hi;rwa [e]at this
 have:=h3 i hi hj;rwa [e]at this
theorem oH (h:bey κ false key p=true):le κ p key:=by
 unfold bey at h;rw[QI (by simp)]at h;simpa[le,KeyOrd.kle] using h
theorem oG (h:bey κ true key p=true):le κ p key:=by
 unfold bey at h;rw[QL rfl]at h;exact KeyOrd.kle_of_klt h
theorem oJ (h:bey κ false key p=false):le κ key p:=by
 unfold bey at h;rw[QI (by simp)]at h;exact KeyOrd.kle_of_klt (show κ.blt (kv κ key) (kv κ p)=true by simpa using h)
theorem oK (h:bey κ true key p=false):le κ key p:=by
 unfold bey at h;rw[QL rfl]at h;exact h
end
section
theorem iF {U α β:Type} {M:Model} {Q:α->U->Prop} {st:U} {m:StateT U Sem α} (f:β->StateT U Sem α) (I:β->Prop) (J:∀z,I z->wpS M A E s (f z) Q st) (h:(∀z,I z->wpS M A E s (f z) Q st)->wpS M A E s m Q st):wpS M A E s m Q st:=h J
@[reducible] def Fo (κ:KeyKind) (a b:Array Keyed) (st:SortSt) (x:Nat) (c:Option (Array Keyed) × Array Keyed × Nat × Nat × Nat) (st':SortSt):Prop:=Gs st st'/\∃out ia ib mg,c=(none,out,ia,ib,mg)/\LJ κ a b (x+1) out ia ib/\ia+1<a.size/\ib<b.size
@[reducible] def Fm (κ:KeyKind) (a b:Array Keyed) (st:SortSt)  (c:Option (Array Keyed) × Array Keyed × Nat × Nat × Nat) (st':SortSt):Prop:=Gs st st'/\∃r rest,c=(some r,rest)/\Srt κ (a.toList++b.toList) r.toList
@[reducible] def Fl (κ:KeyKind) (a b:Array Keyed) (st:SortSt) (x x':Nat) (c:Option (Array Keyed) × Array Keyed × Nat × Nat × Nat × Nat) (st':SortSt):Prop:=st'=st/\∃out ia ib ac bc,c=(none,out,ia,ib,ac,bc)/\LJ κ a b (x+1+x') out ia ib/\ia+1<a.size/\ib<b.size
@[reducible] def Fk (κ:KeyKind) (a b:Array Keyed) (st:SortSt) (x:Nat) (c:Option (Array Keyed) × Array Keyed × Nat × Nat × Nat × Nat) (st':SortSt):Prop:=st'=st/\((∃r rest,c=(some r,rest)/\Srt κ (a.toList++b.toList) r.toList)\/∃out ia ib ac bc,c=(none,out,ia,ib,ac,bc)/\LJ κ a b (x+1) out ia ib/\ia+1<a.size/\ib<b.size)
@[reducible] def Fj (κ:KeyKind) (a b:Array Keyed) (st:SortSt) (x x':Nat) (c:Option (Array Keyed) × Array Keyed × Nat × Nat × Nat × Nat × Nat) (st':SortSt):Prop:=Gs st st'/\∃out ia ib mg ac bc,c=(none,out,ia,ib,mg,ac,bc)/\LJ κ a b (x+1+x') out ia ib/\ia+1<a.size/\ib<b.size
@[reducible] def Fi (κ:KeyKind) (a b:Array Keyed) (st:SortSt) (x:Nat) (c:Option (Array Keyed) × Array Keyed × Nat × Nat × Nat × Nat × Nat) (st':SortSt):Prop:=Gs st st'/\((∃r rest,c=(some r,rest)/\Srt κ (a.toList++b.toList) r.toList)\/∃out ia ib mg ac bc,c=(none,out,ia,ib,mg,ac,bc)/\LJ κ a b (x+2) out ia ib/\ia+1<a.size/\ib<b.size)
theorem oY (hL:iW κ kd prog w A s) {st:SortSt} {a b:Array Keyed} {Q:Array Keyed->SortSt->Prop} (hk:kindOf st=kd) (ha:∀p∈a.toList,Hk κ p) (hb:∀p∈b.toList,Hk κ p)
  (na:1<=a.size) (nb:1<=b.size) (mi:MI κ (a.toList++b.toList) [] a.toList b.toList) (first:∀p∈a.toList,∀q,b[0]?=some q->le κ q p)
  (h:∀r st',Gs st st'->Srt κ (a.toList++b.toList) r.toList->Q r st'):wpS (model prog w) A E s (qo a b) Q st:=by
 have sa:=mi.sx;have sb:=mi.sy;unfold qo;refine Qu (wpS_lift (XR {rfl,?_}));obtain⟨q0,hq0,_⟩:=a_ (a:=b) (i:=0) (by exact v4 nb);obtain⟨p0,hp0,_,mp0⟩:=a_ (a:=a) (i:=0) (by exact v4 na);have j0:LJ κ a b 0 #[] 0 0:={by simpa using mi,by exact BL na,by exact BL nb,rfl,QG _};have j1:=j0.pushB hp0 hq0 (first p0 mp0 q0 hq0);have j1:LJ κ a b 1 #[q0] 0 1:=j1;refine Qu (be hq0 ?_);refine wpS_mono (Q:=λr st'=>Gs st st'/\Srt κ (a.toList++b.toList) r.toList) ?_ (λr st' z=>h r st' z.1 z.2);clear h
 extract_lets out0
 by_cases c1:1=b.size
 ·refine aX (bT c1) ?_;exact Qy {.refl _,j1.doneB c1}
 refine aW (bF c1) ?_;by_cases c2:0+1=a.size
 ·refine aX (bT c2) ?_;exact Qy {.refl _,j1.lastA c2}
 refine aW (bF c2) ?_;refine Qu (wpS_get ?_)
 extract_lets mg0
 refine Qu (wpS_mono (Xv (I:=Fo κ a b st)
  (Q:=Fm κ a b st) ?step ?fin {.refl _,out0,0,1,mg0,rfl,j1,by exact EH na c2,by exact EG na nb c1 c2}) ?post)
 case post =>
  rintro c st' ⟨g,r,rest,rfl,hr⟩;exact Qy ⟨g,hr⟩
 case fin =>
  rintro c st' ⟨g,out,ia,ib,mg,rfl,j,l1,l2⟩;have:=j.n;have:=j.lo;omega
 case step =>
  rintro x c st1 _ hx ⟨g,out,ia,ib,mg,rfl,j,l1,l2⟩
  refine Qu (wpS_mono (Xv (I:=Fl κ a b st1 x)
   (Q:=Fk κ a b st1 x) ?step1 ?fin1 {rfl,out,ia,ib,0,0,rfl,j,l1,l2}) ?post1)
  case fin1 =>
   rintro c st' ⟨rfl,out,ia,ib,ac,bc,rfl,j,l1,l2⟩;have:=j.n;have:=j.lo;omega
  case step1 =>
   clear j l1 l2;rintro x' c st' _ hx' ⟨rfl,out,ia,ib,ac,bc,rfl,j,l1,l2⟩;obtain⟨p,hp,_,mp⟩:=a_ (a:=a) (i:=ia) (by exact Av l1);obtain⟨q,hq,_,mq⟩:=a_ (a:=b) (i:=ib) l2;refine Qu (be hq (Qu (be hp (Qu (jG hL (by rw[g.kind];exact hk) (hb q mq) (ha p mp) ?_)))));dsimp only
   cases e:κ.blt (kv κ q) (kv κ p) with
   | true =>
    refine aX rfl ?_;refine Qu (be hq ?_);have j2:=j.pushB hp hq (KeyOrd.kle_of_klt e);by_cases d1:ib+1=b.size
    ·refine aX (bT d1) ?_;exact Qy {rfl,.inl {_,_,rfl,j2.doneB d1} }
    refine aW (bF d1) ?_;by_cases d2:bc+1>=mg
    ·refine aX d2 ?_;exact Qy {rfl,.inr {_,_,_,_,_,rfl,j2.less ⋯,l1,by exact Au l2 d1} }
    refine aW d2 ?_;exact Qy {rfl,_,_,_,_,_,rfl,j2.less (by exact xQ),l1,by exact Au l2 d1}
   | false =>
   refine aW Qn ?_;refine Qu (be hp ?_);have j2:=j.pushA hp hq e;by_cases d1:ia+1+1=a.size
   ·refine aX (bT d1) ?_;exact Qy {rfl,.inl {_,_,rfl,j2.lastA d1} }
   refine aW (bF d1) ?_;by_cases d2:ac+1>=mg
   ·refine aX d2 ?_;exact Qy {rfl,.inr {_,_,_,_,_,rfl,j2.less ⋯,by exact BK l1 d1,l2} }
   refine aW d2 ?_;exact Qy {rfl,_,_,_,_,_,rfl,j2.less (by exact xQ),by exact BK l1 d1,l2}
  case post1 =>
   clear j l1 l2;rintro c st' ⟨rfl,⟨r,rest,rfl,hr⟩|⟨out,ia,ib,ac,bc,rfl,j,l1,l2⟩⟩
   ·exact Qy ⟨g,r,_,rfl,hr⟩
   refine Qu (wpS_lift (XR {rfl,?_}))
   refine Qu (wpS_mono (Xv (I:=Fj κ a b st x)
    (Q:=Fi κ a b st x) ?step2 ?fin2 ⟨g,out,ia,ib,_,ac,bc,rfl,j,l1,l2⟩) ?post2)
   case fin2 =>
    rintro c st' ⟨g,out,ia,ib,mg,ac,bc,rfl,j,l1,l2⟩;have:=j.n;have:=j.lo;omega
   case post2 =>
    rintro c st' ⟨g,⟨r,rest,rfl,hr⟩|⟨out,ia,ib,mg,ac,bc,rfl,j,l1,l2⟩⟩
    ·exact Qy ⟨g,r,_,rfl,hr⟩
    refine Qu (fu λst2 g2=>?_);exact Qy {g.trans g2,_,_,_,_,rfl,j,l1,l2}
   case step2 =>
    clear j l1 l2 g;rintro x' c st2 _ hx' ⟨g,out,ia,ib,mg,ac,bc,rfl,j,l1,l2⟩;obtain⟨p,hp,_,mp⟩:=a_ (a:=a) (i:=ia) (by exact Av l1);obtain⟨q,hq,_,mq⟩:=a_ (a:=b) (i:=ib) l2
    extract_lets s1 o1 s2 x1 s3 y1 s4 m1 s5 ac1 bc1 ib2 jp mgm
    refine iF (λm=>jp () m) (λ_=>True) (λm _=>?_) (λJ=>?_)
    ·refine Qu (fu λst3 g3=>?_);have g4:=g.trans g3;have hk3:kindOf st3=kd:=by rw[g4.kind];exact hk
     refine Qu (be hq ?_);refine Qu (gg (a:=a) (base:=ia) (n:=a.size-ia) hL hk3 (hb q mq) ha (by exact EF l1) (λi j p q _ h _ e1 e2=>tw sa h e1 e2) (by exact EE l1) λk k1 k2 k3=>?_);dsimp -zeta only
     extract_lets ac2 jp2 o2 x2
     refine iF (λz:Array Keyed × Nat=>jp2 () z.1 z.2) (λz=>LJ κ a b (x+1+x') z.1 z.2 ib/\z.2+1<a.size/\∀p,a[z.2]?=some p->le κ q p) (λz hz=>?_) (λJ2=>?_)
     ·obtain⟨o3,x3⟩:=z;obtain⟨j3,l3,f3⟩:=hz;dsimp only at j3 l3 f3;obtain⟨p3,hp3,_,mp3⟩:=a_ (a:=a) (i:=x3) (by exact Av l3);refine Qu (be hq ?_);have j4:=j3.pushB hp3 hq (f3 p3 hp3);by_cases d1:ib+1=b.size
      ·refine aX (bT d1) ?_;exact Qy {g4,.inl {_,_,rfl,j4.doneB d1} }
      refine aW (bF d1) ?_;refine Qu (be hp3 ?_);refine Qu (gg (a:=b) (base:=ib+1) (n:=b.size-(ib+1)) hL hk3 (ha p3 mp3) hb (by exact ED l2) (λi j p q _ h _ e1 e2=>tw sb h e1 e2) (by exact EC l2 d1) λk' k1' k2' k3'=>?_);dsimp -zeta only
      extract_lets bc2 ia2 jp3 o4 y4
      refine iF (λz:Array Keyed × Nat=>jp3 () z.1 z.2) (λz=>LJ κ a b (x+1+x'+1) z.1 x3 z.2/\z.2<b.size/\∀q,b[z.2]?=some q->le κ p3 q) (λz hz=>?_) (λJ3=>?_)
      ·obtain⟨o5,y5⟩:=z;obtain⟨j5,l5,f5⟩:=hz;dsimp only at j5 l5 f5;obtain⟨q5,hq5,_,mq5⟩:=a_ (a:=b) (i:=y5) l5;refine Qu (be hp3 ?_);have j6:=j5.pushA hp3 hq5 (f5 q5 hq5);by_cases d2:x3+1+1=a.size
       ·refine aX (bT d2) ?_;exact Qy {g4,.inl {_,_,rfl,j6.lastA d2} }
       refine aW (bF d2) ?_;by_cases d3:(decide (ac2<7)&&decide (bc2<7))=true
       ·refine aX d3 ?_;exact Qy {g4,.inr {_,_,_,_,_,_,rfl,j6.less ⋯,⋯,l5} }
       refine aW d3 ?_;exact Qy {g4,_,_,_,_,_,_,rfl,j6.less (by exact BJ),⋯,l5}
      by_cases d2:k'>0
      ·refine aX d2 ?_;have j5:LJ κ a b (x+1+x'+1) o4 x3 y4:=j4.runB hp3 (by exact EB l2 k1') λi hi p e=>oG (k2' i hi p e);have e2:y4=ib+1+k':=rfl;by_cases d3:y4=b.size
       ·refine aX (bT d3) ?_;exact Qy {g4,.inl {_,_,rfl,j5.doneB d3} }
       refine aW (bF d3) ?_;exact J3 (o4,y4) {j5,by dsimp only;omega,λp e=>oK (k3' k' (Qh _) ⋯ p e)}
      refine aW d2 ?_;have:k'=0:=by exact BI d2
      subst this;exact J3 (_,ib+1) {j4,by dsimp only;exact Au l2 d1,λp e=>oK (k3' 0 (Qh _) (by exact EA l2 d1 k1') p e)}
     by_cases d1:k>0
     ·refine aX d1 ?_;have j3:LJ κ a b (x+1+x') o2 x2 ib:=j.runA hq (by exact Ez l1 k1) λi hi p e=>oH (k2 i hi p e);have e2:x2=ia+k:=rfl;by_cases d2:x2+1=a.size
      ·refine aX (bT d2) ?_;exact Qy {g4,.inl {_,_,rfl,j3.lastA d2} }
      refine aW (bF d2) ?_;by_cases d3:x2=a.size
      ·refine aX (bT d3) ?_;exact Qy {g4,.inl {_,_,rfl,j3.doneA d3} }
      refine aW (bF d3) ?_;exact J2 (o2,x2) {j3,by dsimp only;omega,λp e=>oJ (k3 k (Qh _) ⋯ p e)}
     refine aW d1 ?_;have:k=0:=by exact BI d1
     subst this;exact J2 (o1,x1) {j,l1,λp e=>oJ (k3 0 (Qh _) (by exact Ey l1 k1) p e)}
    by_cases d:m1>1
    ·refine aX d ?_;exact J _ trivial
    refine aW d ?_;exact J _ trivial
end
noncomputable def AZ (κ:KeyKind):KeyKind where
 α:=κ.α
 blt a b:=κ.blt b a
 irrefl a:=κ.irrefl a
 trans a b c h1 h2:=κ.trans c b a h2 h1
 negTrans a b c h:=(κ.negTrans c b a h).symm
 total a b h1 h2:=(κ.total a b h2 h1)
 keyOf:=κ.keyOf
 dflt:=κ.dflt
section
variable {κ:KeyKind}
theorem vJ {l:List Keyed} (h:l.Pairwise (le κ)):l.reverse.Pairwise (le (AZ κ)):=List.pairwise_reverse.mpr h
theorem nv {L r:List Keyed} (h:Srt (AZ κ) L r):Srt κ L r.reverse:={(List.reverse_perm r).trans h.1,List.pairwise_reverse.mpr h.2}
variable {p q:Keyed}
theorem c7 {a:Array Keyed} {i:Nat} (hi:1<=i) (h:a[i-1]?=some p):(a.toList.take i).reverse=p::(a.toList.take (i-1)).reverse:=by
 obtain⟨j,rfl⟩:∃j,i=j+1:={i-1,by exact Ex hi};rw[Nat.add_sub_cancel]at h ⊢;rw[QV,QA,h,List.reverse_append];rfl
structure HJ (κ:KeyKind) (a b:Array Keyed) (n:Nat) (out:Array Keyed) (na nb:Nat):Prop where
 mi:MI (AZ κ) (a.toList++b.toList) out.toList (b.toList.take nb).reverse (a.toList.take na).reverse
 la:na<=a.size
 lb:nb<=b.size
 lo:out.size+na+nb=a.size+b.size
 n:n<=out.size
variable {na nb n m i j:Nat} {a b:Array Keyed}
theorem HJ.less {out:Array Keyed} (h:HJ κ a b n out na nb) (hm:m<=n):HJ κ a b m out na nb:={h.mi,h.la,h.lb,h.lo,QX hm h.n}
theorem fi (a:Array Keyed) (i:Nat):(a.extract 0 i).toList=a.toList.take i:=by simp
theorem HJ.doneA {out:Array Keyed} (h:HJ κ a b n out na nb) (e:na=0):Srt κ (a.toList++b.toList) (a.extract 0 na++b.extract 0 nb++out.reverse).toList:=by
 subst e;have:=nv (MI.endY (by simpa using h.mi));rw[QP,QP,fi,fi,Array.toList_reverse];simpa using this
theorem HJ.doneB {out:Array Keyed} (h:HJ κ a b n out na nb) (e:nb=0):Srt κ (a.toList++b.toList) (a.extract 0 na++b.extract 0 nb++out.reverse).toList:=by
 subst e;have:=nv (MI.endX (by simpa using h.mi));rw[QP,QP,fi,fi,Array.toList_reverse];simpa using this
theorem HJ.firstB {out:Array Keyed} (h:HJ κ a b n out na nb) (e:nb=1):Srt κ (a.toList++b.toList) (b.extract 0 nb++a.extract 0 na++out.reverse).toList:=by
 subst e;obtain⟨q,hq,_⟩:=a_ (a:=b) (i:=0) (by have:=h.lb;exact v4 this);have m:=h.mi;have tr:=c7 (a:=b) (i:=1) (Qh _) hq;rw[Nat.sub_self,List.take_zero,List.reverse_nil]at tr;rw[tr]at m;have:=nv m.lastX
 have t1:b.toList.take 1=[q]:=by
  have:=congrArg List.reverse tr;simpa using this
 rw[QP,QP,fi,fi,Array.toList_reverse,t1];simpa using this
theorem HJ.pushA {out:Array Keyed} (h:HJ κ a b n out na nb) (n1:1<=na) (n2:1<=nb) (ha:a[na-1]?=some p) (hb:b[nb-1]?=some q) (c:le κ q p):HJ κ a b (n+1) (out.push p) (na-1) nb:=by
 have m:=h.mi;rw[c7 n1 ha,c7 n2 hb]at m;have m:=m.takeY c;rw[<-c7 n2 hb]at m;refine{by rw[Array.toList_push];exact m,by have:=h.la;exact BH n1 this,h.lb,by rw[Array.size_push];have:=h.lo;exact Ew n1 this,by rw[Array.size_push];have:=h.n;exact uv this}
theorem HJ.pushB {out:Array Keyed} (h:HJ κ a b n out na nb) (n1:1<=na) (n2:1<=nb) (ha:a[na-1]?=some p) (hb:b[nb-1]?=some q) (c:le κ p q):HJ κ a b (n+1) (out.push q) na (nb-1):=by
 have m:=h.mi;rw[c7 n1 ha,c7 n2 hb]at m;have m:=m.takeX c;rw[<-c7 n1 ha]at m;refine{by rw[Array.toList_push];exact m,h.la,by have:=h.lb;exact BH n2 this,by rw[Array.size_push];have:=h.lo;exact Ev n2 this,by rw[Array.size_push];have:=h.n;exact uv this}
theorem pf (l:List Keyed) (h:i<=j):(l.take j).reverse=((l.take j).drop i).reverse++(l.take i).reverse:=by
 rw[<-List.reverse_append];congr 1;have:=QZ i (l.take j);rw[List.take_take,Nat.min_eq_left h]at this;exact this.symm
theorem tH (a:Array Keyed) (h:i<=j):(a.extract i j).reverse.toList=((a.toList.take j).drop i).reverse:=by
 simp[List.drop_take]
theorem tm (h:p∈((a.toList.take j).drop i).reverse):∃k,i<=k/\k<j/\a[k]?=some p:=by
 rw[List.mem_reverse]at h;obtain⟨m,hm,e⟩:=Qo.mp h;rw[Q9,Qv]at hm;have e3:=Qc (l:=(a.toList.take j).drop i) (i:=m) (by rw[Q9,Qv];exact Eu hm);rw[e,List.getElem?_drop,List.getElem?_take,QL (by exact BG hm),QA]at e3;exact{i+m,by exact v5,by exact BG hm,e3}
theorem HJ.runA {out:Array Keyed} {k:Nat} (h:HJ κ a b n out na nb) (n2:1<=nb) (hb:b[nb-1]?=some q) (hk:k<=na) (c:∀i,k<=i->i<na->∀p,a[i]?=some p->le κ q p):HJ κ a b n (out++(a.extract k na).reverse) k nb:=by
 have m:=h.mi;have sx:=m.sx;rw[pf _ hk]at m
 have m:=m.takeYs λp hp r hr=>by
  obtain⟨i,h1,h2,e⟩:=tm hp;rw[c7 n2 hb]at hr sx;exact gu sx (c i h1 h2 p e) hr
 have sz:(a.extract k na).reverse.size=na-k:=by rw[Array.size_reverse,Array.size_extract];have:=h.la;exact BF hk this
 refine{by rw[QP,tH _ hk];exact m,by have:=h.la;exact BE hk this,h.lb,by rw[Xu,sz];have:=h.lo;omega,by rw[Xu];have:=h.n;exact BD sz this}
theorem HJ.runB {out:Array Keyed} {k:Nat} (h:HJ κ a b n out na nb) (n1:1<=na) (ha:a[na-1]?=some p) (hk:k<=nb) (c:∀i,k<=i->i<nb->∀q,b[i]?=some q->le κ p q):HJ κ a b n (out++(b.extract k nb).reverse) na k:=by
 have m:=h.mi;have sy:=m.sy;rw[pf _ hk]at m
 have m:=m.takeXs λq hq r hr=>by
  obtain⟨i,h1,h2,e⟩:=tm hq;rw[c7 n1 ha]at hr sy;exact gu sy (c i h1 h2 q e) hr
 have sz:(b.extract k nb).reverse.size=nb-k:=by rw[Array.size_reverse,Array.size_extract];have:=h.lb;exact BF hk this
 refine{by rw[QP,tH _ hk];exact m,h.la,by have:=h.lb;exact BE hk this,by rw[Xu,sz];have:=h.lo;omega,by rw[Xu];have:=h.n;exact BD sz this}
end
section
@[reducible] def Fv (κ:KeyKind) (a b:Array Keyed) (st:SortSt) (x:Nat) (c:Option (Array Keyed) × Nat × Nat × Array Keyed × Nat) (st':SortSt):Prop:=Gs st st'/\∃na nb out mg,c=(none,na,nb,out,mg)/\HJ κ a b (x+1) out na nb/\1<=na/\2<=nb
@[reducible] def Ft (κ:KeyKind) (a b:Array Keyed) (st:SortSt)  (c:Option (Array Keyed) × Nat × Nat × Array Keyed × Nat) (st':SortSt):Prop:=Gs st st'/\∃r rest,c=(some r,rest)/\Srt κ (a.toList++b.toList) r.toList
@[reducible] def Fs (κ:KeyKind) (a b:Array Keyed) (st:SortSt) (x x':Nat) (c:Option (Array Keyed) × Nat × Nat × Array Keyed × Nat × Nat) (st':SortSt):Prop:=st'=st/\∃na nb out ac bc,c=(none,na,nb,out,ac,bc)/\HJ κ a b (x+1+x') out na nb/\1<=na/\2<=nb
@[reducible] def Fr (κ:KeyKind) (a b:Array Keyed) (st:SortSt) (x:Nat) (c:Option (Array Keyed) × Nat × Nat × Array Keyed × Nat × Nat) (st':SortSt):Prop:=st'=st/\((∃r rest,c=(some r,rest)/\Srt κ (a.toList++b.toList) r.toList)\/∃na nb out ac bc,c=(none,na,nb,out,ac,bc)/\HJ κ a b (x+1) out na nb/\1<=na/\2<=nb)
@[reducible] def Fq (κ:KeyKind) (a b:Array Keyed) (st:SortSt) (x x':Nat) (c:Option (Array Keyed) × Nat × Nat × Array Keyed × Nat × Nat × Nat) (st':SortSt):Prop:=Gs st st'/\∃na nb out mg ac bc,c=(none,na,nb,out,mg,ac,bc)/\HJ κ a b (x+1+x') out na nb/\1<=na/\2<=nb
@[reducible] def Fp (κ:KeyKind) (a b:Array Keyed) (st:SortSt) (x:Nat) (c:Option (Array Keyed) × Nat × Nat × Array Keyed × Nat × Nat × Nat) (st':SortSt):Prop:=Gs st st'/\((∃r rest,c=(some r,rest)/\Srt κ (a.toList++b.toList) r.toList)\/∃na nb out mg ac bc,c=(none,na,nb,out,mg,ac,bc)/\HJ κ a b (x+2) out na nb/\1<=na/\2<=nb)
theorem oZ (hL:iW κ kd prog w A s) {st:SortSt} {a b:Array Keyed} {Q:Array Keyed->SortSt->Prop} (hk:kindOf st=kd) (ha:∀p∈a.toList,Hk κ p) (hb:∀p∈b.toList,Hk κ p)
  (na:1<=a.size) (nb:1<=b.size) (sa:a.toList.Pairwise (le κ)) (sb:b.toList.Pairwise (le κ)) (first:∀p∈a.toList,∀q,b[0]?=some q->le κ q p) (last:∀q∈b.toList,∀p,a[a.size-1]?=some p->le κ q p)
  (h:∀r st',Gs st st'->Srt κ (a.toList++b.toList) r.toList->Q r st'):wpS (model prog w) A E s (qp a b) Q st:=by
 unfold qp;refine Qu (wpS_lift (XR {rfl,?_}));obtain⟨q0,hq0,_,mq0⟩:=a_ (a:=b) (i:=b.size-1) (by exact uu nb);obtain⟨qf,hqf,_,mqf⟩:=a_ (a:=b) (i:=0) (by exact v4 nb);obtain⟨p0,hp0,_,mp0⟩:=a_ (a:=a) (i:=a.size-1) (by exact uu na)
 have j0:HJ κ a b 0 #[] a.size b.size:=by
  have e1:a.toList.take a.size=a.toList:=Qw (by simp);have e2:b.toList.take b.size=b.toList:=Qw (by simp);refine{ {?_,List.Pairwise.nil,by rw[e2];exact vJ sb,by rw[e1];exact vJ sa,λp hp=>(nomatch hp),λp hp=>(nomatch hp),λq hq l hl=>?_},Qh _,Qh _,by simp,QG _}
  ·rw[e1,e2];show ([]++(b.toList.reverse++a.toList.reverse)).Perm _;rw[List.nil_append,<-List.reverse_append];exact List.reverse_perm _
  rw[e1,List.mem_reverse]at hq;rw[e2,List.getLast?_reverse]at hl;refine first q hq l ?_;rw[<-QA,<-List.head?_eq_getElem?];exact hl
 have j1:=j0.pushA na nb hp0 hq0 (last q0 mq0 p0 hp0);have j1:HJ κ a b 1 #[p0] (a.size-1) b.size:=j1
 extract_lets tot dn fb na0 nb0 z0
 refine Qu (be hp0 ?_);refine wpS_mono (Q:=λr st'=>Gs st st'/\Srt κ (a.toList++b.toList) r.toList) ?_ (λr st' z=>h r st' z.1 z.2);clear h
 extract_lets out0
 by_cases c1:na0=0
 ·refine aX (bT c1) ?_;exact Qy {.refl _,j1.doneA c1}
 refine aW (bF c1) ?_;by_cases c2:b.size=1
 ·refine aX (bT c2) ?_;exact Qy {.refl _,j1.firstB c2}
 refine aW (bF c2) ?_;refine Qu (wpS_get ?_)
 extract_lets mg0
 have e0:na0=a.size-1:=rfl
 refine Qu (wpS_mono (Xv (I:=Fv κ a b st)
  (Q:=Ft κ a b st) ?step ?fin {.refl _,na0,nb0,out0,mg0,rfl,j1,by exact Et na nb c1 c2,⋯}) ?post)
 case post =>
  rintro c st' ⟨g,r,rest,rfl,hr⟩;exact Qy ⟨g,hr⟩
 case fin =>
  rintro c st' ⟨g,na,nb,out,mg,rfl,j,l1,l2⟩;have:=j.n;have:=j.lo;omega
 case step =>
  rintro x c st1 _ hx ⟨g,na,nb,out,mg,rfl,j,l1,l2⟩
  refine Qu (wpS_mono (Xv (I:=Fs κ a b st1 x)
   (Q:=Fr κ a b st1 x) ?step1 ?fin1 {rfl,na,nb,out,0,0,rfl,j,l1,l2}) ?post1)
  case fin1 =>
   rintro c st' ⟨rfl,na,nb,out,ac,bc,rfl,j,l1,l2⟩;have:=j.n;have:=j.lo;omega
  case step1 =>
   clear j l1 l2;rintro x' c st' _ hx' ⟨rfl,na,nb,out,ac,bc,rfl,j,l1,l2⟩;have la:=j.la;have lb:=j.lb;obtain⟨p,hp,_,mp⟩:=a_ (a:=a) (i:=na-1) (by exact As l1 la);obtain⟨q,hq,_,mq⟩:=a_ (a:=b) (i:=nb-1) (by exact Ar l2 lb);refine Qu (be hq (Qu (be hp (Qu (jG hL (by rw[g.kind];exact hk) (hb q mq) (ha p mp) ?_)))));dsimp -zeta only
   cases e:κ.blt (kv κ q) (kv κ p) with
   | true =>
    refine aX rfl ?_;refine Qu (be hp ?_);have j2:=j.pushA l1 (by exact v0 l2) hp hq (KeyOrd.kle_of_klt e);by_cases d1:na-1=0
    ·refine aX (bT d1) ?_;exact Qy {rfl,.inl {_,_,rfl,j2.doneA d1} }
    refine aW (bF d1) ?_;by_cases d2:ac+1>=mg
    ·refine aX d2 ?_;exact Qy {rfl,.inr {_,_,_,_,_,rfl,j2.less ⋯,by exact Bu l1 d1,l2} }
    refine aW d2 ?_;exact Qy {rfl,_,_,_,_,_,rfl,j2.less (by exact xQ),by exact Bu l1 d1,l2}
   | false =>
   refine aW Qn ?_;refine Qu (be hq ?_);have j2:=j.pushB l1 (by exact v0 l2) hp hq e;by_cases d1:nb-1=1
   ·refine aX (bT d1) ?_;exact Qy {rfl,.inl {_,_,rfl,j2.firstB d1} }
   refine aW (bF d1) ?_;by_cases d2:bc+1>=mg
   ·refine aX d2 ?_;exact Qy {rfl,.inr {_,_,_,_,_,rfl,j2.less ⋯,l1,by exact Bt l2 d1} }
   refine aW d2 ?_;exact Qy {rfl,_,_,_,_,_,rfl,j2.less (by exact xQ),l1,by exact Bt l2 d1}
  case post1 =>
   clear j l1 l2;rintro c st' ⟨rfl,⟨r,rest,rfl,hr⟩|⟨na,nb,out,ac,bc,rfl,j,l1,l2⟩⟩
   ·exact Qy ⟨g,r,_,rfl,hr⟩
   refine Qu (wpS_lift (XR {rfl,?_}))
   refine Qu (wpS_mono (Xv (I:=Fq κ a b st x)
    (Q:=Fp κ a b st x) ?step2 ?fin2 ⟨g,na,nb,out,_,ac,bc,rfl,j,l1,l2⟩) ?post2)
   case fin2 =>
    rintro c st' ⟨g,na,nb,out,mg,ac,bc,rfl,j,l1,l2⟩;have:=j.n;have:=j.lo;omega
   case post2 =>
    rintro c st' ⟨g,⟨r,rest,rfl,hr⟩|⟨na,nb,out,mg,ac,bc,rfl,j,l1,l2⟩⟩
    ·exact Qy ⟨g,r,_,rfl,hr⟩
    refine Qu (fu λst2 g2=>?_);exact Qy {g.trans g2,_,_,_,_,rfl,j,l1,l2}
   case step2 =>
    clear j l1 l2 g;rintro x' c st2 _ hx' ⟨g,na,nb,out,mg,ac,bc,rfl,j,l1,l2⟩;have la:=j.la;have lb:=j.lb;obtain⟨p,hp,_,mp⟩:=a_ (a:=a) (i:=na-1) (by exact As l1 la);obtain⟨q,hq,_,mq⟩:=a_ (a:=b) (i:=nb-1) (by exact Ar l2 lb)
    extract_lets s1 x1 s2 y1 s3 o1 s4 m1 s5 ac1 bc1 nb2 jp mgm
    refine iF (λm=>jp () m) (λ_=>True) (λm _=>?_) (λJ=>?_)
    ·refine Qu (fu λst3 g3=>?_);have g4:=g.trans g3;have hk3:kindOf st3=kd:=by rw[g4.kind];exact hk
     refine Qu (be hq ?_);refine Qu (gg (a:=a) (base:=0) (n:=na) (hint:=na-1) hL hk3 (hb q mq) ha (by exact Es la) (λi j p q _ h _ e1 e2=>tw sa h e1 e2) (by exact uu l1) λk k1 k2 k3=>?_);simp only[Nat.zero_add]at k2 k3;dsimp -zeta only
     extract_lets kk ac2 jp2 o2 x2
     refine iF (λz:Nat × Array Keyed=>jp2 () z.1 z.2) (λz=>HJ κ a b (x+1+x') z.2 z.1 nb/\1<=z.1/\∀p,a[z.1-1]?=some p->le κ p q) (λz hz=>?_) (λJ2=>?_)
     ·obtain⟨x3,o3⟩:=z;obtain⟨j3,l3,f3⟩:=hz;dsimp only at j3 l3 f3;have la3:=j3.la;obtain⟨p3,hp3,_,mp3⟩:=a_ (a:=a) (i:=x3-1) (by exact As l3 la3);refine Qu (be hq ?_);have j4:=j3.pushB l3 (by exact v0 l2) hp3 hq (f3 p3 hp3);by_cases d1:nb-1=1
      ·refine aX (bT d1) ?_;exact Qy {g4,.inl {_,_,rfl,j4.firstB d1} }
      refine aW (bF d1) ?_;refine Qu (be hp3 ?_);refine Qu (gg (a:=b) (base:=0) (n:=nb-1) (hint:=nb-1-1) hL hk3 (ha p3 mp3) hb (by exact Er l2 lb) (λi j p q _ h _ e1 e2=>tw sb h e1 e2) (by exact Ep l2) λk' k1' k2' k3'=>?_);simp only[Nat.zero_add]at k2' k3';dsimp -zeta only
      extract_lets kk' bc2 na4 jp3 o4 y4
      refine iF (λz:Nat × Array Keyed=>jp3 () z.1 z.2) (λz=>HJ κ a b (x+1+x'+1) z.2 x3 z.1/\2<=z.1/\∀q,b[z.1-1]?=some q->le κ q p3) (λz hz=>?_) (λJ3=>?_)
      ·obtain⟨y5,o5⟩:=z;obtain⟨j5,l5,f5⟩:=hz;dsimp only at j5 l5 f5;have lb5:=j5.lb;obtain⟨q5,hq5,_,mq5⟩:=a_ (a:=b) (i:=y5-1) (by exact Ar l5 lb5);refine Qu (be hp3 ?_);have j6:=j5.pushA l3 (by exact v0 l5) hp3 hq5 (f5 q5 hq5);by_cases d2:x3-1=0
       ·refine aX (bT d2) ?_;exact Qy {g4,.inl {_,_,rfl,j6.doneA d2} }
       refine aW (bF d2) ?_;by_cases d3:(decide (ac2<7)&&decide (bc2<7))=true
       ·refine aX d3 ?_;exact Qy {g4,.inr {_,_,_,_,_,_,rfl,j6.less ⋯,⋯,l5} }
       refine aW d3 ?_;exact Qy {g4,_,_,_,_,_,_,rfl,j6.less (by exact BJ),⋯,l5}
      have ek':kk'=nb-1-k':=rfl;by_cases d2:kk'>0
      ·refine aX d2 ?_;have j5:HJ κ a b (x+1+x'+1) o4 x3 y4:=j4.runB l3 hp3 (by exact Eo k1') λi h1 h2 p e=>oK (k3' i h1 h2 p e);have e2:y4=k':=rfl;by_cases d3:y4=1
       ·refine aX (bT d3) ?_;exact Qy {g4,.inl {_,_,rfl,j5.firstB d3} }
       refine aW (bF d3) ?_;by_cases d4:y4=0
       ·refine aX (bT d4) ?_;exact Qy {g4,.inl {_,_,rfl,j5.doneB d4} }
       refine aW (bF d4) ?_;exact J3 (y4,o4) {j5,by dsimp only;exact En d3 d4,λq e=>oG (k2' (y4-1) ⋯ q e)}
      refine aW d2 ?_;exact J3 (nb-1,_) {j4,Bw l2 d1,λq e=>oG (k2' (nb-1-1) (by exact Em l2 ek' d2) q e)}
     have ek:kk=na-k:=rfl;by_cases d1:kk>0
     ·refine aX d1 ?_;have j3:HJ κ a b (x+1+x') o2 x2 nb:=j.runA (by exact v0 l2) hq (by exact Aq k1) λi h1 h2 p e=>oJ (k3 i h1 h2 p e);have e2:x2=k:=rfl;by_cases d2:x2=0
      ·refine aX (bT d2) ?_;exact Qy {g4,.inl {_,_,rfl,j3.doneA d2} }
      refine aW (bF d2) ?_;exact J2 (x2,o2) {j3,by dsimp only;exact DQ d2,λp e=>oH (k2 (x2-1) ⋯ p e)}
     refine aW d1 ?_;exact J2 (na,out) {j,l1,λp e=>oH (k2 (na-1) (by exact DP l1 ek d1) p e)}
    by_cases d:m1>1
    ·refine aX d ?_;exact J _ trivial
    refine aW d ?_;exact J _ trivial
end
section
structure Sg (lo:Nat) (st st':SortSt):Prop where
 kind:kindOf st'=kindOf st
 pend:pendingOf st'=pendingOf st
 fail:failedOf st'=failedOf st
 head:∀i,i<lo->(arrOf st')[i]?=(arrOf st)[i]?
 perm:(arrOf st').Perm (arrOf st)
theorem Sg.refl (lo:Nat) (st:SortSt):Sg lo st st:={rfl,rfl,rfl,λ_ _=>rfl,Array.Perm.refl _}
variable {a b c st:SortSt} {lo i n nrem:Nat}
theorem Sg.trans (x:Sg lo a b) (y:Sg lo b c):Sg lo a c:={y.kind.trans x.kind,y.pend.trans x.pend,y.fail.trans x.fail,λi h=>(y.head i h).trans (x.head i h),y.perm.trans x.perm}
theorem Sg.size (x:Sg lo a b):(arrOf b).size=(arrOf a).size:=x.perm.size_eq
theorem Sg.keys (x:Sg lo a b) (h:∀p∈(arrOf a).toList,Hk κ p):∀p∈(arrOf b).toList,Hk κ p:=λp hp=>h p ((Array.perm_iff_toList_perm.mp x.perm).mem_iff.mp hp)
variable {xs:Array Keyed}
theorem wB {p:Keyed} (h:xs[i]?=some p):KK κ xs i=kv κ p:=by unfold KK kv;rw[h]
theorem gf (hL:iW κ kd prog w A s) {i j:Nat} {Q:Option Bool->SortSt->Prop} (hk:kindOf st=kd) (ha:∀p∈(arrOf st).toList,Hk κ p) (hi:i<(arrOf st).size) (hj:j<(arrOf st).size)
  (h:Q (some (κ.blt (KK κ (arrOf st) i) (KK κ (arrOf st) j))) st):wpS (model prog w) A E s (ltAt' i j) Q st:=by
 obtain⟨p,hp,_,mp⟩:=a_ hi;obtain⟨q,hq,_,mq⟩:=a_ hj;rw[wB hp,wB hq]at h;rw[ltAt'_eq];exact Qu (wpS_get (Qu (be hp (Qu (be hq (jG hL hk (ha p mp) (ha q mq) h))))))
def Up (κ:KeyKind) (xs:Array Keyed) (lo n:Nat):Prop:=∀i j,i<=j->j<n->κ.kle (KK κ xs (lo+i)) (KK κ xs (lo+j))
def oV (κ:KeyKind) (xs:Array Keyed) (lo n:Nat):Prop:=∀i j,i<=j->j<n->κ.kle (KK κ xs (lo+j)) (KK κ xs (lo+i))
theorem Up.one:Up κ xs lo 1:=λi j h1 h2=>by
 have:i=j:=by exact DO h1 h2
 subst this;exact XQ _
theorem Up.more (h:Up κ xs lo n) (h1:1<=n) (c:κ.kle (KK κ xs (lo+(n-1))) (KK κ xs (lo+n))):Up κ xs lo (n+1):=λi j hij hj=>by
 by_cases e:j<n
 ·exact h i j hij e
 have:j=n:=by exact zH hj e
 subst this;by_cases e2:i=j
 ·subst e2;exact XQ _
 exact KeyOrd.kle_trans (h i (j-1) (by exact zF hij h1 e2) (by exact uu h1)) c
theorem oV.more (h:oV κ xs lo n) (h1:1<=n) (c:κ.kle (KK κ xs (lo+n)) (KK κ xs (lo+(n-1)))):oV κ xs lo (n+1):=λi j hij hj=>by
 by_cases e:j<n
 ·exact h i j hij e
 have:j=n:=by exact zH hj e
 subst this;by_cases e2:i=j
 ·subst e2;exact XQ _
 exact KeyOrd.kle_trans c (h i (j-1) (by exact zF hij h1 e2) (by exact uu h1))
theorem sq {lo a:Nat} {f:Nat->Option (Option Nat) × Nat->StateT SortSt Sem (ForInStep (Option (Option Nat) × Nat))} {Q:Option (Option Nat) × Nat->SortSt->Prop} (h1:1<=a) (h2:a<=nrem) (up:Up κ (arrOf st) lo a)
  (hf:∀x n (R:ForInStep (Option (Option Nat) × Nat)->SortSt->Prop),1<=n->n<nrem->(κ.klt (KK κ (arrOf st) (lo+n)) (KK κ (arrOf st) (lo+(n-1)))->R (.done (none,n)) st)->(κ.kle (KK κ (arrOf st) (lo+(n-1))) (KK κ (arrOf st) (lo+n))->R (.yield (none,n+1)) st)->wpS (model prog w) A E s (f x (none,n)) R st)
  (h:∀n,a<=n->n<=nrem->Up κ (arrOf st) lo n->(n=nrem\/κ.klt (KK κ (arrOf st) (lo+n)) (KK κ (arrOf st) (lo+(n-1))))->Q (none,n) st):wpS (model prog w) A E s (forIn [a:nrem] (none,a) f) Q st:=by
 refine Xv (I:=λx c st'=>st'=st/\c=(none,x)/\Up κ (arrOf st) lo x) ?_ ?_ ⟨rfl,rfl,up⟩
 ·rintro x c st' hax hx ⟨rfl,rfl,u⟩;exact hf x x _ (by exact zE h1 hax) hx (λe=>h x hax (by exact v8 hx) u (.inr e)) λe=>{rfl,rfl,u.more (by exact zE h1 hax) e}
 rintro c st' ⟨rfl,rfl,u⟩;rw[show max a nrem=nrem by exact DN h2]at u ⊢;exact h nrem h2 (Qh _) u (.inl rfl)
theorem js {lo i j:Nat} {Q:Unit->SortSt->Prop} (hi:lo<=i) (hj:j<=(arrOf st).size) (h:∀st',Sg lo st st'->(∀k,KK κ (arrOf st') k=if i<=k/\k<j then KK κ (arrOf st) (i+j-1-k) else KK κ (arrOf st) k)->Q () st'):wpS (model prog w) A E s (reverseSlice' i j) Q st:=by
 rw[reverseSlice'_eq];refine wpS_modify (h _ {rfl,rfl,rfl,λk hk=>?_,mirror_perm _ _ _ _} λk=>KK_mirror hj k);show (mirror (arrOf st) i j ((j-i) / 2))[k]?=_;rw[getElem?_mirror_all hj,QI (by exact DM hi hk)]
theorem hX {U α β:Type} {M:Model} {Q:α->U->Prop} {st:U} {m:StateT U Sem α} (f:β->StateT U Sem α) (I:β->U->Prop) (J:∀z st',I z st'->wpS M A E s (f z) Q st') (h:(∀z st',I z st'->wpS M A E s (f z) Q st')->wpS M A E s m Q st):wpS M A E s m Q st:=h J
def mU:Nat->Nat->StateT SortSt Sem (Option Nat):=sortPriv% PySem.Builtin.countRun
theorem tX (hL:iW κ kd prog w A s) {lo nrem:Nat} {Q:Option Nat->SortSt->Prop} (hk:kindOf st=kd) (ha:∀p∈(arrOf st).toList,Hk κ p) (h1:1<=nrem) (hn:lo+nrem<=(arrOf st).size)
  (h:∀m st',Sg lo st st'->1<=m->m<=nrem->Up κ (arrOf st') lo m->Q (some m) st'):wpS (model prog w) A E s (mU lo nrem) Q st:=by
 unfold mU;refine Qu (sq (κ:=κ) (lo:=lo) (Qh 1) h1 Up.one (λx n R a1 a2 r1 r2=>?_) λn a1 a2 up stop=>?_)
 ·extract_lets
  refine Qu (gf hL hk ha ⋯ ⋯ ?_);rw[show lo+n-1=lo+(n-1) by exact zD a1];dsimp -zeta only
  cases e:κ.blt (KK κ (arrOf st) (lo+n)) (KK κ (arrOf st) (lo+(n-1))) with
  | true=>refine aX rfl ?_;exact Qy (r1 e)
  | false=>refine aW Qn ?_;exact Qy (r2 e)
 show wpS _ _ _ _ (if (n==nrem)=true then pure (some n) else _) _ _;by_cases hnn:n=nrem
 ·refine aX (bT hnn) ?_;exact Qy (h n st (.refl _ _) a1 a2 up)
 refine aW (bF hnn) ?_;have lt0:=stop.resolve_left hnn
 extract_lets jn jq jp
 refine hX (λ_:Unit=>jp ()) (λ_ st'=>Sg lo st st'/\oV κ (arrOf st') lo (n+1)) (λ_ st1 hz=>?_) (λJ=>?_)
 ·obtain⟨g1,dn⟩:=hz;refine Qu (wpS_lift (XR {rfl,?_}))
  refine Qu (wpS_mono (Xv (I:=λx c st'=>∃neq,c=(none,x,neq)/\Sg lo st st'/\oV κ (arrOf st') lo x/\neq+1<=x/\∀i,x-(neq+1)<=i->i<x->KK κ (arrOf st') (lo+i)=KK κ (arrOf st') (lo+(x-1)))
   (Q:=λc st'=>∃x neq,c=(none,x,neq)/\Sg lo st st'/\x<=nrem/\oV κ (arrOf st') lo x/\neq+1<=x/\∀i,x-(neq+1)<=i->i<x->KK κ (arrOf st') (lo+i)=KK κ (arrOf st') (lo+(x-1))) ?step ?fin {0,rfl,g1,dn,⋯,λi i1 i2=>by rw[show i=n+1-1 by omega]}) ?post)
  case fin =>
   rintro c st' ⟨neq,rfl,b1,b2,b3,b4⟩;rw[show max (n+1) nrem=nrem by exact DK a2 hnn]at b2 b3 b4 ⊢;exact{nrem,neq,rfl,b1,Qh _,b2,b3,b4}
  case step =>
   rintro x c st' hax hx ⟨neq,rfl,b1,b2,b3,b4⟩;have sz:=b1.size;have hk':kindOf st'=kd:=b1.kind.trans hk;have ha':=b1.keys ha;refine Qu (gf (i:=lo+x) (j:=lo+x-1) hL hk' ha' (by exact sZ hn hx sz) ⋯ ?_);rw[show lo+x-1=lo+(x-1) by exact DJ b3];dsimp -zeta only
   extract_lets
   cases e:κ.blt (KK κ (arrOf st') (lo+x)) (KK κ (arrOf st') (lo+(x-1))) with
   | true =>
    refine aX rfl ?_;have d1:=b2.more (by exact v7 b3) (KeyOrd.kle_of_klt e);by_cases c:neq>0
    ·refine aX c ?_;refine Qu (js (κ:=κ) (lo:=lo) (by exact zC b3) (by exact DI hn hx sz) λst2 g2 kk=>?_)
     have kk:∀i,KK κ (arrOf st2) (lo+i)=KK κ (arrOf st') (lo+i):=λi=>by
      rw[kk]
      split
      ·rename_i q
       obtain⟨e1,e2,e3,e4,e5⟩:=zd b3 q;rw[e1,b4 _ e2 e3,b4 i e4 e5]
      rfl
     exact Qy {0,rfl,b1.trans g2,λi j h1 h2=>by rw[kk,kk];exact d1 i j h1 h2,by exact zB,λi i1 i2=>by rw[show i=x+1-1 by exact DH i1 i2]}
    refine aW c ?_;exact Qy {0,rfl,b1,d1,by exact zB,λi i1 i2=>by rw[show i=x+1-1 by omega]}
   | false =>
   refine aW Qn ?_;refine Qu (gf (i:=lo+(x-1)) (j:=lo+x) hL hk' ha' ⋯ (by exact sZ hn hx sz) ?_);dsimp -zeta only
   cases e2:κ.blt (KK κ (arrOf st') (lo+(x-1))) (KK κ (arrOf st') (lo+x)) with
   | true =>
    refine aX rfl ?_;exact Qy {x,neq,rfl,b1,by exact v8 hx,b2,b3,b4}
   | false =>
   refine aW Qn ?_;have eq:KK κ (arrOf st') (lo+x)=KK κ (arrOf st') (lo+(x-1)):=KeyOrd.kle_antisymm e2 e;refine Qy {neq+1,rfl,b1,b2.more (by exact v7 b3) (by rw[eq];exact XQ _),by exact DF b3,λi i1 i2=>?_};rw[show x+1-1=x by exact DE];by_cases ix:i=x
   ·rw[ix]
   rw[b4 i ⋯ (by exact DC i2 ix),eq]
  case post =>
   rintro c st2 ⟨x,neq,rfl,b1,b2,b3,b4,b5⟩
   extract_lets r2 s2 n2 q2 jp2
   have sz:=b1.size;refine hX (λ_:Unit=>jp2 ()) (λ_ st'=>Sg lo st st'/\oV κ (arrOf st') lo x) (λ_ st3 hz=>?_) (λJ2=>?_)
   ·obtain⟨g3,dn3⟩:=hz;have sz3:=g3.size;refine Qu (js (κ:=κ) (lo:=lo) (Qh _) (show lo+x<=_ by exact DB hn b2 sz sz3) λst4 g4 kk=>?_);have g5:=g3.trans g4;have sz5:=g5.size;refine Qu (sq (κ:=κ) (lo:=lo) (show 1<=x by exact v7 b4) b2 (λi j h1 h2=>?_) (λy n R a1 a2 r1 r2=>?_) λn a1 a2 up stop=>?_)
    ·have h2:j<x:=h2;rw[kk,kk,QL (by exact DA h1 h2),QL (by exact Dz h2),show lo+(lo+x)-1-(lo+i)=lo+(x-1-i) by exact vZ (XB h1 h2),show lo+(lo+x)-1-(lo+j)=lo+(x-1-j) by exact vZ h2];exact dn3 _ _ (by exact Dy h1 h2) (by exact Dx h1 h2)
    ·refine Qu (gf hL (g5.kind.trans hk) (g5.keys ha) ⋯ ⋯ ?_);rw[show lo+n-1=lo+(n-1) by exact zD a1];dsimp -zeta only
     cases e:κ.blt (KK κ (arrOf st4) (lo+n)) (KK κ (arrOf st4) (lo+(n-1))) with
     | true=>refine aX rfl ?_;exact Qy (r1 e)
     | false=>refine aW Qn ?_;exact Qy (r2 e)
    have a1:x<=n:=a1;exact Qy (h n st4 g5 (by exact Dw b4 a1) a2 up)
   by_cases c:neq>0
   ·show wpS _ _ _ _ (if neq>0 then _ else _) _ _;refine aX c ?_;refine Qu (js (κ:=κ) (lo:=lo) (i:=lo+x-(neq+1)) (j:=lo+x) (show lo<=lo+x-(neq+1) by exact zC b4) (show lo+x<=_ by exact Dv hn b2 sz) λst3 g3 kk=>?_)
    have kk:∀i,KK κ (arrOf st3) (lo+i)=KK κ (arrOf st2) (lo+i):=λi=>by
     rw[kk]
     split
     ·rename_i q
      obtain⟨e1,e2,e3,e4,e5⟩:=zd b4 q;rw[e1,b5 _ e2 e3,b5 i e4 e5]
     rfl
    exact J2 () st3 {b1.trans g3,λi j h1 h2=>by rw[kk,kk];exact b3 i j h1 h2}
   show wpS _ _ _ _ (if neq>0 then _ else _) _ _;refine aW c ?_;exact J2 () st2 ⟨b1,b3⟩
 by_cases c:n>1
 ·refine aX c ?_;refine Qu (gf hL hk ha (by exact Dt h1 hn) ⋯ ?_);rw[show lo+n-1=lo+(n-1) by exact Ds c];dsimp -zeta only
  cases e:κ.blt (KK κ (arrOf st) lo) (KK κ (arrOf st) (lo+(n-1))) with
  | true =>
   refine aX rfl ?_;exact Qy (h n st (.refl _ _) a1 a2 up)
  | false =>
  refine aW Qn ?_
  have all:∀i,i<n->KK κ (arrOf st) (lo+i)=KK κ (arrOf st) (lo+(n-1)):=λi hi =>
   KeyOrd.kle_antisymm (up i (n-1) (by exact Dr c hi) (by exact Dq c)) (KeyOrd.kle_trans e (by have:=up 0 i (by exact Aw) hi;rwa [Nat.add_zero]at this))
  refine Qu (js (κ:=κ) (lo:=lo) (Qh _) (show lo+n<=_ by exact Dp hn a2) λst3 g3 kk=>?_)
  have kk:∀i,KK κ (arrOf st3) (lo+i)=KK κ (arrOf st) (lo+i):=λi=>by
   rw[kk]
   split
   ·rename_i q
    have l:=Nat.lt_of_add_lt_add_left q.2;rw[vZ l,all _ (XB (Nat.sub_le _ _) (Nat.sub_lt (XB (QG _) l) Nat.zero_lt_one)),all i l]
   rfl
  refine J () st3 {g3,oV.more (λi j h1 h2=>?_) a1 ?_}
  ·rw[kk,kk,all i (by exact Do h1 h2),all j h2];exact XQ _
  rw[kk,kk];exact KeyOrd.kle_of_klt lt0
 refine aW c ?_;refine J () st {.refl _ _,oV.more (λi j h1 h2=>?_) a1 (KeyOrd.kle_of_klt lt0)};have:i=j:=by exact Dn a1 c h1 h2
 subst this;exact XQ _
end
section
def D_:Nat->Nat->Nat->StateT SortSt Sem Bool:=sortPriv% PySem.Builtin.binarySort
theorem xr (hL:iW κ kd prog w A s) {st:SortSt} {lo n ok:Nat} {Q:Bool->SortSt->Prop} (hk:kindOf st=kd) (ha:∀p∈(arrOf st).toList,Hk κ p) (h1:ok<=n) (hn:lo+n<=(arrOf st).size) (up:Up κ (arrOf st) lo ok)
  (h:∀st',Sg lo st st'->Up κ (arrOf st') lo n->Q true st'):wpS (model prog w) A E s (D_ lo n ok) Q st:=by
 unfold D_;refine Qu (wpS_mono (Xv (I:=λk c st'=>c=(none,())/\Sg lo st st'/\Up κ (arrOf st') lo (min k n)) (Q:=λc st'=>c=(none,())/\Sg lo st st'/\Up κ (arrOf st') lo n) ?step ?fin ?init) ?post)
 case post =>
  rintro c st' ⟨rfl,g,u⟩;exact Qy (h st' g u)
 case init =>
  refine{rfl,.refl _ _,λi j hij hj=>?_};by_cases e:ok=0
  ·have:i=j:=by exact Dm hij hj e
   subst this;exact XQ _
  exact up i j hij (by exact Dl h1 hj e)
 case fin =>
  rintro c st' ⟨rfl,g,u⟩;rw[show min (max (max ok 1) n) n=n by exact Dj]at u;exact⟨rfl,g,u⟩
 case step =>
  rintro k c st' k1 k2 ⟨rfl,g,u⟩;rw[show min k n=k by exact Dh k2]at u;have sz:=g.size
  refine Qu (wpS_mono (Xv (I:=λx c st2=>st2=st'/\∃l r,c=(none,l,r)/\l<=r/\r<=k/\r-l<=k-x/\(∀i,i<l->κ.kle (KK κ (arrOf st') (lo+i)) (KK κ (arrOf st') (lo+k)))/\(∀i,r<=i->i<k->κ.kle (KK κ (arrOf st') (lo+k)) (KK κ (arrOf st') (lo+i))))
   (Q:=λc st2=>st2=st'/\∃l,c=(none,l,l)/\l<=k/\(∀i,i<l->κ.kle (KK κ (arrOf st') (lo+i)) (KK κ (arrOf st') (lo+k)))/\(∀i,l<=i->i<k->κ.kle (KK κ (arrOf st') (lo+k)) (KK κ (arrOf st') (lo+i)))) ?istep ?ifin {rfl,0,k,rfl,by exact Aw,by exact Dg,by exact Df,λi hi=>by omega,λi a b=>by omega}) ?ipost)
  case ifin =>
   rintro c st2 ⟨rfl,l,r,rfl,a1,a2,a3,a4,a5⟩;have:l=r:=by exact B0 a1 a3
   subst this;exact⟨rfl,l,rfl,a2,a4,a5⟩
  case istep =>
   rintro x c st2 _ hx ⟨rfl,l,r,rfl,a1,a2,a3,a4,a5⟩;dsimp -zeta only
   extract_lets
   by_cases c:l>=r
   ·show wpS _ _ _ _ (if l>=r then _ else _) _ _;refine aX c ?_;have:l=r:=by exact Ax a1 c
    subst this;exact Qy ⟨rfl,l,rfl,a2,a4,a5⟩
   show wpS _ _ _ _ (if l>=r then _ else _) _ _;refine aW c ?_;refine Qu (gf (i:=lo+k) (j:=lo+(l+r) / 2) hL (g.kind.trans hk) (g.keys ha) (by exact sZ hn k2 sz) ⋯ ?_);dsimp -zeta only
   cases e:κ.blt (KK κ (arrOf st2) (lo+k)) (KK κ (arrOf st2) (lo+(l+r) / 2)) with
   | true =>
    refine aX rfl ?_;refine Qy {rfl,l,(l+r) / 2,rfl,by exact De c,by exact Dd a2 c,Bz a3 c,a4,λi b1 b2=>?_};exact KeyOrd.kle_trans (KeyOrd.kle_of_klt e) (u _ _ b1 b2)
   | false =>
   refine aW Qn ?_;refine Qy {rfl,(l+r) / 2+1,r,rfl,by exact Dc c,by exact Aq a2,BA a3 c,λi b1=>?_,a5};exact KeyOrd.kle_trans (u i ((l+r) / 2) (by exact Db b1) (by exact Da a2 c)) e
  case ipost =>
   rintro c st2 ⟨rfl,l,rfl,a2,a4,a5⟩;show wpS _ _ _ _ (moveDown' (lo+k) (lo+l) >>= _) _ _;rw[moveDown'_eq];have hks:lo+k<(arrOf st2).size:=by exact sZ hn k2 sz
   refine Qu (wpS_modify (Qy {rfl,g.trans {rfl,rfl,rfl,λi hi=>?_,bubble_perm _ _ _},λi j hij hj=>?_}))
   ·show (bubble (arrOf st2) (lo+k) (lo+k-(lo+l)))[i]?=_;rw[getElem?_bubble hks _ (by exact C_ a2 hi),QI (by exact C9 a2 hi),QI ⋯]
   rw[show min (k+1) n=k+1 by exact C8 k2]at hj;show κ.kle (KK κ (bubble (arrOf st2) (lo+k) (lo+k-(lo+l))) (lo+i)) (KK κ (bubble (arrOf st2) (lo+k) (lo+k-(lo+l))) (lo+j));rw[KK_bubble hks (by exact zw a2),KK_bubble hks (by exact zw a2),show lo+k-(lo+k-(lo+l))=lo+l by exact C7 a2];have sh:∀i,l<i->lo+i-1=lo+(i-1):=λi hi=>by exact C6 hi
   by_cases ci:i<l
   ·rw[QI (by exact zu ci),QI (by exact zt ci)];by_cases cj:j<l
    ·rw[QI (by exact zu cj),QI (by exact zt cj)];exact u i j hij (by exact C5 a2 hj cj)
    by_cases cj2:j=l
    ·rw[QL (by exact zq cj2)];exact a4 i ci
    rw[QI (by exact zp cj2),QL ⋯,sh j (by exact zo cj cj2)];exact u i (j-1) (by exact C3 hij ci cj) (by exact C2 a2 hij hj ci)
   by_cases ci2:i=l
   ·rw[QL (by exact zq ci2)];by_cases cj2:j=l
    ·rw[QL (by exact C1 ci2 cj2)];exact XQ _
    rw[QI (by exact C0 ci2 cj2),QL ⋯,sh j (by exact CZ hij ci2 cj2)];exact a5 (j-1) (by exact CY hij ci2 cj2) (by exact CW hij hj ci2 cj2)
   rw[QI (by exact zp ci2),QL ⋯,QI (by exact CV hij ci ci2),QL ⋯,sh i (by exact zo ci ci2),sh j (by exact CU hij ci ci2)];exact u (i-1) (j-1) (by exact CS hij) (by exact CQ hij hj ci ci2)
end
theorem pU (o:Nat):∀(M:List Keyed) (j:Nat) (arr:Array Keyed) (P S T:List Keyed),arr.toList=P++(S++T)->P.length=o+j->S.length=M.length->((M.zipIdx j).foldl (λa (x:Keyed × Nat)=>a.setIfInBounds (o+x.2) x.1) arr).toList=P++(M++T)
 | [],j,arr,P,S,T,h,hp,hs=>by
  have:S=[]:=Q8 hs;subst this;exact h
 | p::M,j,arr,P,[],T,h,hp,hs=>by simp at hs
 | p::M,j,arr,P,q::S,T,h,hp,hs=>by
  rw[List.zipIdx_cons,List.foldl_cons]
  have e:(arr.setIfInBounds (o+j) p).toList=(P++[p])++(S++T):=by
   rw[Array.toList_setIfInBounds,h,List.set_append,QI (by exact CP hp),show o+j-P.length=0 by exact CO hp];simp
  have:=pU o M (j+1) (arr.setIfInBounds (o+j) p) (P++[p]) S T e (by rw[Qk];simp;exact CN hp) (by simpa using hs);rw[this];simp
def fw:Nat->List (List Keyed)->List (Nat × Nat)
 | _,[]=>[]
 | b,r::rs=>(b,r.length)::fw (b+r.length) rs
theorem im (u w:List (List Keyed)):∀b,fw b (u++w)=fw b u++fw (b+u.flatten.length) w:=by
 induction u with
 | nil=>intro b;simp[fw]
 | cons r u ih =>
 intro b;show (b,r.length)::fw (b+r.length) (u++w)=_;rw[ih];show _=(b,r.length)::(fw (b+r.length) u++_);rw[List.flatten_cons,Qk,Nat.add_assoc]
theorem qh (u:List (List Keyed)):∀b,(fw b u).length=u.length:=by
 induction u with
 | nil=>intro b;rfl
 | cons r u ih=>intro b;show (fw _ u).length+1=_;rw[ih];rfl
structure RI (κ:KeyKind) (kd:SortKind) (a₀:Array Keyed) (st:SortSt) (rs:List (List Keyed)) (rest:List Keyed):Prop where
 arr:(arrOf st).toList=rs.flatten++rest
 perm:(arrOf st).Perm a₀
 ok:∀r∈rs,r≠[]/\r.Pairwise (le κ)
 pend:(pendingOf st).toList.map (λp=>(p.1,p.2.1))=fw 0 rs
 kind:kindOf st=kd
 fail:failedOf st=none
theorem xJ {ps:Array (Nat × Nat × Nat)} {u v:List (List Keyed)} {X Y:List Keyed} (h:ps.toList.map (λp=>(p.1,p.2.1))=fw 0 (u++X::Y::v)) :
  ∃p1 p2,ps[u.length]?=some (u.flatten.length,X.length,p1)/\ps[u.length+1]?=some (u.flatten.length+X.length,Y.length,p2) /\
   ((ps.setIfInBounds u.length (u.flatten.length,X.length+Y.length,p1)).eraseIdxIfInBounds (u.length+1)).toList.map (λp=>(p.1,p.2.1))=fw 0 u++(u.flatten.length,X.length+Y.length)::fw (u.flatten.length+X.length+Y.length) v:=by
 rw[im,Nat.zero_add]at h;have h:ps.toList.map (λp=>(p.1,p.2.1))=fw 0 u++(u.flatten.length,X.length)::(u.flatten.length+X.length,Y.length)::fw (u.flatten.length+X.length+Y.length) v:=h;have lu:=qh u 0;obtain⟨l1,l2,e,e1,e2⟩:=List.map_eq_append_iff.mp h
 cases l2 with
 | nil=>simp at e2
 | cons a l2 =>
 cases l2 with
 | nil=>simp at e2
 | cons b l2 =>
 obtain⟨a1,a2,a3⟩:=a;obtain⟨b1,b2,b3⟩:=b;simp only[QM,List.cons.injEq,Prod.mk.injEq]at e2;obtain⟨⟨rfl,rfl⟩,⟨rfl,rfl⟩,e3⟩:=e2;have l1l:l1.length=u.length:=by rw[<-lu,<-e1,Qa]
 have pe:ps=(l1++(u.flatten.length,X.length,a3)::(u.flatten.length+X.length,Y.length,b3)::l2).toArray:=by rw[<-e]
 subst pe;refine{a3,b3,?_,?_,?_}
 ·rw[<-l1l];simp
 ·rw[<-l1l];simp[QH]
 rw[<-l1l,<-e1,<-e3];simp[Array.eraseIdxIfInBounds,List.set_append,List.eraseIdx_append];rw[QI (by exact CM)];simp
section
theorem xq {U:Type} {M:Model} {x:U} {Q:PUnit->U->Prop} {st:U} (h:Q ⟨⟩ x):wpS M A E s (set x:StateT U Sem PUnit) Q st:=by
 unfold wpS;rw[StateT.run_set];exact Qf ⟨rfl,h⟩
theorem iY (hL:iW κ kd prog w A s) {st:SortSt} {a₀:Array Keyed} {u v:List (List Keyed)} {X Y rest:List Keyed} {Q:Bool->SortSt->Prop} (ha:∀p∈a₀.toList,Hk κ p) (I:RI κ kd a₀ st (u++X::Y::v) rest)
  (h:∀Z st',Z.length=X.length+Y.length->RI κ kd a₀ st' (u++Z::v) rest->Q true st'):wpS (model prog w) A E s (mergeAt' u.length) Q st:=by
 obtain⟨earr,perm,ok,pend,kind,fail⟩:=I;obtain⟨p1,p2,e1,e2,e3⟩:=xJ pend;obtain⟨xne,sx⟩:=ok X (by simp);obtain⟨yne,sy⟩:=ok Y (by simp);have xl:1<=X.length:=Nat.pos_of_ne_zero λz=>xne (Q8 z);have yl:1<=Y.length:=Nat.pos_of_ne_zero λz=>yne (Q8 z);have ha':∀p∈(arrOf st).toList,Hk κ p:=λp hp=>ha p ((Array.perm_iff_toList_perm.mp perm).mem_iff.mp hp);have earr:(arrOf st).toList=u.flatten++(X++(Y++(v.flatten++rest))):=by rw[earr];simp
 have sz:(arrOf st).size=u.flatten.length+(X.length+(Y.length+(v.flatten++rest).length)):=by rw[<-Qs,earr];simp only[Qk]
 have atX:∀i,i<X.length->(arrOf st)[u.flatten.length+i]?=X[i]?:=λi hi=>by rw[<-QA,earr,QH (by exact v5),XA,QF hi]
 have atY:∀i,i<Y.length->(arrOf st)[u.flatten.length+X.length+i]?=Y[i]?:=λi hi=>by rw[<-QA,earr,QH (by exact CL xl sz),QH (by exact CK xl sz),show u.flatten.length+X.length+i-u.flatten.length-X.length=i by exact CJ,QF hi]
 obtain⟨y0,hy0⟩:∃y0,Y[0]?=some y0:={Y[0],by rw[Qc]};obtain⟨xz,hxz⟩:∃xz,X[X.length-1]?=some xz:={X[X.length-1],by rw[Qc]};have key0:(arrOf st)[u.flatten.length+X.length]?=some y0:=by have:=atY 0 (by exact v4 yl);rw[Nat.add_zero]at this;rw[this,hy0]
 have pwi:∀{L:List Keyed},L.Pairwise (le κ)->∀{i j:Nat} {p q:Keyed},i<=j->L[i]?=some p->L[j]?=some q->le κ p q:=λ{L} sl {i j p q} hij hi hj=>by
  by_cases e:i=j
  ·subst e;rw[hi]at hj;cases hj;exact XQ _
  obtain⟨li,ei⟩:=Qe.mp hi;obtain⟨lj,ej⟩:=Qe.mp hj;have:=(List.pairwise_iff_getElem.mp sl) i j li lj (by exact BO hij e);rwa [ei,ej]at this
 have leY:∀q∈Y,le κ y0 q:=λq hq=>by
  obtain⟨j,hj,ej⟩:=Qo.mp hq;exact pwi sy (QG j) hy0 (by rw[Qc hj,ej])
 have leX:∀p∈X,le κ p xz:=λp hp=>by
  obtain⟨j,hj,ej⟩:=Qo.mp hp;exact pwi sx (show j<=X.length-1 by exact CI xl sz hj) (by rw[Qc hj,ej]) hxz
 have same:∀st',arrOf st'=arrOf st->kindOf st'=kindOf st->failedOf st'=failedOf st->(pendingOf st').toList.map (λp=>(p.1,p.2.1))=fw 0 u++(u.flatten.length,X.length+Y.length)::fw (u.flatten.length+X.length+Y.length) v->(∀p∈X,∀q∈Y,le κ p q)->Q true st':=λst' h1 h2 h3 h4 h5=>by
  refine h (X++Y) st' (by simp) {by rw[h1,earr];simp,by rw[h1];exact perm,λr hr=>?_,?_,h2.trans kind,h3.trans fail}
  ·rcases Qp.mp hr with e|e
   ·exact ok r (by simp[e])
   rcases QO.mp e with e|e
   ·subst e;exact{by simp[xne],Xf.mpr ⟨sx,sy,h5⟩}
   exact ok r (by simp[e])
  rw[h4,im,Nat.zero_add];show _=_++(u.flatten.length,(X++Y).length)::fw (u.flatten.length+(X++Y).length) v;rw[Qk,Nat.add_assoc]
 unfold mergeAt';refine Qu (wpS_get ?_);show wpS _ _ _ _ (match ((pendingOf st)[u.length]?,(pendingOf st)[u.length+1]?) with|(some (sa,na,power),some (sb,nb,_))=>_|x=>_) _ _;rw[e1,e2];dsimp -zeta only;refine Qu (xq ?_);refine Qu (be key0 ?_);have hk0:Hk κ y0:=ha' y0 (by rw[Array.mem_toList_iff];exact Array.mem_of_getElem? key0);refine Qu (gg (a:=arrOf st) (base:=u.flatten.length) (n:=X.length) (hint:=0) hL (by exact kind) hk0 ha' (by exact CG yl sz) (λi j p q b1 b2 b3 c1 c2=>?_) (by exact CF xl sz) λk k1 k2 k3=>?_)
 ·have f1:=atX (i-u.flatten.length) ⋯;have f2:=atX (j-u.flatten.length) ⋯;rw[show u.flatten.length+(i-u.flatten.length)=i by exact CD b1,c1]at f1;rw[show u.flatten.length+(j-u.flatten.length)=j by exact CC b1 b2,c2]at f2;exact pwi sx (show i-u.flatten.length<=j-u.flatten.length by exact CB b1 b2) f1.symm f2.symm
 dsimp -zeta only;have k2':∀i,i<k->∀p,X[i]?=some p->le κ p y0:=λi hi p e=>oH (k2 i hi p (by rw[atX i (by exact CA sz k1 hi)];exact e))
 have k3':∀i,k<=i->∀p,X[i]?=some p->le κ y0 p:=λi hi p e=>by
  have hl:=(Qe.mp e).1;exact oJ (k3 i hi hl p (by rw[atX i hl];exact e))
 by_cases d1:X.length-k=0
 ·refine aX (bT d1) ?_;refine Qy (same _ rfl rfl rfl e3 λp hp q hq=>?_);obtain⟨j,hj,ej⟩:=Qo.mp hp;exact le_trans (k2' j ⋯ p (by rw[Qc hj,ej])) (leY q hq)
 refine aW (bF d1) ?_
 have keyz:(arrOf st)[u.flatten.length+k+(X.length-k)-1]?=some xz:=by
  rw[(By (f:=u.flatten.length) k1).resolve_right (λz=>by rw[z]at xl;exact absurd xl (by decide)),atX _ (by exact Cz xl sz),hxz]
 refine Qu (be keyz ?_);have hkz:Hk κ xz:=ha' xz (by rw[Array.mem_toList_iff];exact Array.mem_of_getElem? keyz);refine Qu (gg (a:=arrOf st) (base:=u.flatten.length+X.length) (n:=Y.length) (hint:=Y.length-1) hL (by exact kind) hkz ha' (by exact Cy sz) (λi j p q b1 b2 b3 c1 c2=>?_) (by exact uu yl) λm m1 m2 m3=>?_)
 ·have f1:=atY (i-(u.flatten.length+X.length)) ⋯;have f2:=atY (j-(u.flatten.length+X.length)) ⋯;rw[show u.flatten.length+X.length+(i-(u.flatten.length+X.length))=i by omega,c1]at f1;rw[show u.flatten.length+X.length+(j-(u.flatten.length+X.length))=j by omega,c2]at f2;exact pwi sy (show i-(u.flatten.length+X.length)<=j-(u.flatten.length+X.length) by omega) f1.symm f2.symm
 dsimp -zeta only;have m2':∀i,i<m->∀p,Y[i]?=some p->le κ p xz:=λi hi p e=>oG (m2 i hi p (by rw[atY i (by exact zn m1 hi)];exact e))
 have m3':∀i,m<=i->∀p,Y[i]?=some p->le κ xz p:=λi hi p e=>by
  have hl:=(Qe.mp e).1;exact oK (m3 i hi hl p (by rw[atY i hl];exact e))
 by_cases d2:m=0
 ·refine aX (bT d2) ?_;refine Qy (same _ rfl rfl rfl e3 λp hp q hq=>?_);obtain⟨j,hj,ej⟩:=Qo.mp hq;exact le_trans (leX p hp) (m3' j (by exact Cw d2) q (by rw[Qc hj,ej]))
 refine aW (bF d2) ?_
 extract_lets x y jp
 have ex:x.toList=X.drop k:=by
  show ((arrOf st).extract (u.flatten.length+k) (u.flatten.length+X.length)).toList=_;rw[show u.flatten.length+X.length=(u.flatten.length+k)+(X.length-k) by omega,jC,earr,<-List.drop_drop,List.drop_left,List.drop_append_of_le_length (by exact Aq k1),List.take_append_of_le_length (by rw[Q9];exact om1),Qw (by rw[Q9];exact om1)]
 have ey:y.toList=Y.take m:=by
  show ((arrOf st).extract (u.flatten.length+X.length) (u.flatten.length+X.length+m)).toList=_;rw[jC,earr,<-List.drop_drop,List.drop_left,List.drop_left,List.take_append_of_le_length m1]
 have zx:x.size=X.length-k:=by rw[<-Qs,ex,Q9]
 have zy:y.size=m:=by rw[<-Qs,ey,Qv];omega
 have atx:∀{i p},x[i]?=some p->X[k+i]?=some p:=λ{i p} e=>by rw[<-QA,ex,List.getElem?_drop]at e;exact e
 have aty:∀{i p},y[i]?=some p->Y[i]?=some p:=λ{i p} e=>by
  have hl:=(Q7.mp e).1;rw[<-QA,ey,List.getElem?_take,QL (by exact Ay zy hl)]at e;exact e
 have inX:∀p∈x.toList,∃i,k<=i/\X[i]?=some p:=λp hp=>by
  obtain⟨i,hi,ei⟩:=Qo.mp hp;exact{k+i,by exact v5,atx (by rw[<-QA,Qc hi,ei])}
 have inY:∀p∈y.toList,∃i,i<m/\Y[i]?=some p:=λp hp=>by
  obtain⟨i,hi,ei⟩:=Qo.mp hp;rw[Qs]at hi;exact{i,by exact Ay zy hi,aty (by rw[<-QA,Qc (by rw[Qs];exact hi),ei])}
 have mX:∀{p i},X[i]?=some p->p∈X:=λe=>Qg e
 have hx:∀p∈x.toList,Hk κ p:=λp hp=>by
  obtain⟨i,_,e⟩:=inX p hp;exact ha' p (by rw[earr];simp[Qg e])
 have hy:∀p∈y.toList,Hk κ p:=λp hp=>by
  obtain⟨i,_,e⟩:=inY p hp;exact ha' p (by rw[earr];simp[Qg e])
 have ssx:x.toList.Pairwise (le κ):=by rw[ex];exact sx.sublist (List.drop_sublist _ _)
 have ssy:y.toList.Pairwise (le κ):=by rw[ey];exact sy.sublist (List.take_sublist _ _)
 have first:∀p∈x.toList,∀q,y[0]?=some q->le κ q p:=λp hp q hq=>by
  obtain⟨i,hi,e⟩:=inX p hp;have:=aty hq;rw[hy0]at this;cases this;exact k3' i hi p e
 have last:∀q∈y.toList,∀p,x[x.size-1]?=some p->le κ q p:=λq hq p hp=>by
  obtain⟨i,hi,e⟩:=inY q hq;have:=atx hp;rw[Bx k1 d1 zx,hxz]at this;cases this;exact m2' i hi q e
 refine hX (λz:Array Keyed=>jp z) (λz st'=>Gs (setPending st (((pendingOf st).setIfInBounds u.length (u.flatten.length,X.length+Y.length,p1)).eraseIdxIfInBounds (u.length+1))) st'/\Srt κ (x.toList++y.toList) z.toList) (λz st1 hz=>?_) (λJ=>?_)
 ·obtain⟨g,so⟩:=hz;refine Qu (wpS_modify ?_);refine Qu (wpS_get ?_);have f1:failedOf st1=none:=g.fail.trans fail;have lz:z.toList.length=(X.length-k)+m:=by rw[so.1.length_eq,Qk,Qs,Qs,zx,zy]
  have ar:(List.foldl (λa (x:Keyed × Nat)=>a.setIfInBounds (u.flatten.length+k+x.snd) x.fst) (arrOf st1) z.toList.zipIdx).toList=u.flatten++((X.take k++(z.toList++Y.drop m))++(v.flatten++rest)):=by
   rw[pU (u.flatten.length+k) z.toList 0 (arrOf st1) (u.flatten++X.take k) (X.drop k++Y.take m) (Y.drop m++(v.flatten++rest)) ?_ ?_ ?_]
   ·simp only[Xa]
   ·rw[show arrOf st1=arrOf st from g.arr,earr]
    conv=>lhs;rw[<-QZ k X,<-QZ m Y]
    simp only[Xa]
   ·rw[Qk,Qv];exact Cv sz k1
   rw[lz,Qk,Q9,Qv];exact Cu m1 zy
  have pz:(X.take k++(z.toList++Y.drop m)).Perm (X++Y):=by
   conv=>rhs;rw[<-QZ k X,<-QZ m Y]
   rw[Xa];refine List.Perm.append_left _ ?_;rw[<-Xa];refine List.Perm.append_right _ ?_;rw[<-ex,<-ey];exact so.1
  have mz:∀p∈z.toList,(∃i,k<=i/\X[i]?=some p)\/∃i,i<m/\Y[i]?=some p:=λp hp=>by
   rcases Qp.mp (so.1.mem_iff.mp hp) with e|e
   ·exact .inl (inX p e)
   exact .inr (inY p e)
  have tk:∀p∈X.take k,∃i,i<k/\X[i]?=some p:=λp hp=>by
   obtain⟨i,hi,ei⟩:=Qo.mp hp;have:=Qc hi;rw[ei,List.getElem?_take]at this;rw[Qv]at hi;rw[QL ⋯]at this;exact{i,⋯,this}
  have dm:∀p∈Y.drop m,∃i,m<=i/\Y[i]?=some p:=λp hp=>by
   obtain⟨i,hi,ei⟩:=Qo.mp hp;have:=Qc hi;rw[ei,List.getElem?_drop]at this;exact{m+i,by exact v5,this}
  have sz':(X.take k++(z.toList++Y.drop m)).Pairwise (le κ):=by
   refine Xf.mpr {sx.sublist (List.take_sublist _ _),Xf.mpr {so.2,sy.sublist (List.drop_sublist _ _),λp hp q hq=>?_},λp hp q hq=>?_}
   ·obtain⟨j,hj,ej⟩:=dm q hq;rcases mz p hp with⟨i,hi,ei⟩|⟨i,hi,ei⟩
    ·exact le_trans (leX p (mX ei)) (m3' j hj q ej)
    exact pwi sy (by exact Ct zy hj hi) ei ej
   obtain⟨i,hi,ei⟩:=tk p hp;rcases Qp.mp hq with e|e
   ·rcases mz q e with⟨j,hj,ej⟩|⟨j,hj,ej⟩
    ·exact pwi sx (by exact Cs hi hj) ei ej
    exact le_trans (k2' i hi p ei) (leY q (Qg ej))
   obtain⟨j,hj,ej⟩:=dm q e;exact le_trans (k2' i hi p ei) (leY q (Qg ej))
  have fin:∀st',arrOf st'=List.foldl (λa (x:Keyed × Nat)=>a.setIfInBounds (u.flatten.length+k+x.snd) x.fst) (arrOf st1) z.toList.zipIdx->kindOf st'=kindOf st1->failedOf st'=failedOf st1->pendingOf st'=pendingOf st1->Q true st':=λst' h1 h2 h3 h4=>by
   refine h (X.take k++(z.toList++Y.drop m)) st' (by rw[pz.length_eq,Qk]) {?_,?_,λr hr=>?_,?_,h2.trans (g.kind.trans kind),h3.trans f1}
   ·rw[h1,ar];simp
   ·refine Array.Perm.trans ?_ perm;rw[Array.perm_iff_toList_perm,h1,ar,earr];refine List.Perm.append_left _ ?_;rw[<-Xa X];exact List.Perm.append_right _ pz
   ·rcases Qp.mp hr with e|e
    ·exact ok r (by simp[e])
    rcases QO.mp e with e|e
    ·subst e;refine{λz0=>?_,sz'};have:=pz.length_eq;rw[z0,Qk]at this;simp at this;omega
    exact ok r (by simp[e])
   rw[h4,show pendingOf st1=_ from g.pend];rw[im,Nat.zero_add];show _=_++(u.flatten.length,(X.take k++(z.toList++Y.drop m)).length)::fw (u.flatten.length+(X.take k++(z.toList++Y.drop m)).length) v;rw[pz.length_eq,Qk,<-Nat.add_assoc];exact e3
  refine Qy ?_;show Q (failedOf st1).isNone (setArr st1 (List.foldl (λa (x:Keyed × Nat)=>a.setIfInBounds (u.flatten.length+k+x.snd) x.fst) (arrOf st1) z.toList.zipIdx));rw[show (failedOf st1).isNone=true by rw[f1];rfl];exact fin _ rfl rfl rfl rfl
 by_cases d3:X.length-k<=m
 ·refine aX d3 ?_;refine Qu (oY hL (by exact kind) hx hy ⋯ ⋯ {by simp,List.Pairwise.nil,ssx,ssy,λp hp=>(nomatch hp),λp hp=>(nomatch hp),λq hq l hl=>last q hq l ?_} first λr st' g so=>J r st' ⟨g,so⟩);rw[List.getLast?_eq_getElem?,QA,Qs]at hl;exact hl
 refine aW d3 ?_;exact Qu (oZ hL (by exact kind) hx hy ⋯ ⋯ ssx ssy first last λr st' g so=>J r st' ⟨g,so⟩)
end
section
variable {xs a₀:Array Keyed}
theorem xv {lo n:Nat} (h:Up κ xs lo n) (hn:lo+n<=xs.size):((xs.toList.drop lo).take n).Pairwise (le κ):=by
 rw[List.pairwise_iff_getElem];intro i j hi hj hij;rw[Qv,Q9,Qs]at hi hj
 have at_:∀(m:Nat) (hm:m<((xs.toList.drop lo).take n).length),kv κ ((xs.toList.drop lo).take n)[m]=KK κ xs (lo+m):=λm hm=>by
  have e:=Qc hm;rw[Qv,Q9,Qs]at hm;rw[List.getElem?_take,QL (by exact zm hm),List.getElem?_drop,QA]at e;exact(wB e).symm
 unfold le;rw[at_,at_];exact h i j (by exact v8 hij) (by exact zm hj)
variable {rs:List (List Keyed)} {st st2:SortSt}
theorem pX {rest:List Keyed} (I:RI κ kd a₀ st rs rest):(pendingOf st).size=rs.length:=by
 have:=congrArg List.length I.pend;rwa [Qa,qh,Qs]at this
theorem vp {rs:List (List Keyed)} {i:Nat} (h:i+1<rs.length):∃u X Y v,rs=u++X::Y::v/\u.length=i:=by
 refine{rs.take i,rs[i],rs[i+1],rs.drop (i+2),?_,by rw[Qv];exact Cr h};rw[<-List.drop_eq_getElem_cons,<-List.drop_eq_getElem_cons,QZ]
theorem RI.seg {rest:List Keyed} (I:RI κ kd a₀ st rs rest) (g:Sg rs.flatten.length st st2):RI κ kd a₀ st2 rs ((arrOf st2).toList.drop rs.flatten.length):=by
 refine{?_,g.perm.trans I.perm,I.ok,by rw[g.pend];exact I.pend,g.kind.trans I.kind,g.fail.trans I.fail}
 have:(arrOf st2).toList.take rs.flatten.length=rs.flatten:=by
  refine List.ext_getElem? λi=>?_;rw[List.getElem?_take]
  split
  ·rename_i hi
   rw[QA,g.head i hi,<-QA,I.arr,QF hi]
  rename_i hi
  rw[Xb (by exact om2 hi)]
 conv=>lhs;rw[<-QZ rs.flatten.length (arrOf st2).toList]
 rw[this]
variable {ps:Array (Nat × Nat × Nat)}
theorem RI.power {rest:List Keyed} (I:RI κ kd a₀ st rs rest) (h:ps.toList.map (λp=>(p.1,p.2.1))=(pendingOf st).toList.map (λp=>(p.1,p.2.1))):RI κ kd a₀ (setPending st ps) rs rest :=
 {I.arr,I.perm,I.ok,h.trans I.pend,I.kind,I.fail}
theorem rG {i pw:Nat}:(ps.modify i λx=>match x with|(st,len,_)=>(st,len,pw)).toList.map (λp=>(p.1,p.2.1))=ps.toList.map (λp=>(p.1,p.2.1)):=by
 refine List.ext_getElem? λj=>?_;rw[Qi,Qi,QA,QA,Array.getElem?_modify]
 split
 ·cases ps[j]? with
  | none=>rfl
  | some p=>rfl
 rfl
theorem vb (hL:iW κ kd prog w A s) {st:SortSt} {a₀:Array Keyed} {Q:Unit->SortSt->Prop} (ha:∀p∈a₀.toList,Hk κ p) (I:RI κ kd a₀ st [] a₀.toList)
  (h:∀st',(arrOf st').Perm a₀->failedOf st'=none->(arrOf st').toList.Pairwise (le κ)->Q () st'):wpS (model prog w) A E s sortRuns' Q st:=by
 have ha2:∀{st:SortSt} {rs:List (List Keyed)} {rest:List Keyed},RI κ kd a₀ st rs rest->∀p∈(arrOf st).toList,Hk κ p:=λI p hp=>ha p ((Array.perm_iff_toList_perm.mp I.perm).mem_iff.mp hp)
 have sz:∀{st:SortSt} {rs:List (List Keyed)} {rest:List Keyed},RI κ kd a₀ st rs rest->(arrOf st).size=a₀.size/\a₀.size=rs.flatten.length+rest.length:=λI=>by
  have:=I.perm.size_eq;refine{this,?_};rw[<-this,<-Qs,I.arr,Qk]
 unfold sortRuns';refine Qu (wpS_get ?_)
 extract_lets szv mr lo0
 have ez:szv=a₀.size:=(sz I).1
 clear_value szv mr
 subst ez;refine Qu (wpS_mono (Xv (I:=λx c st'=>∃rs rest,c=(none,rs.flatten.length)/\RI κ kd a₀ st' rs rest/\(x<=rs.flatten.length\/rest=[])) (Q:=λc st'=>∃rs lo,c=(none,lo)/\RI κ kd a₀ st' rs []) ?step ?fin {[],_,rfl,I,.inl (QG _)}) ?post)
 case fin =>
  rintro c st' ⟨rs,rest,rfl,J,o⟩;have:=(sz J).2
  have e:rest=[]:=by
   rcases o with o|o
   ·exact Q8 (by exact Cq this o)
   exact o
  subst e;exact⟨rs,_,rfl,J⟩
 case step =>
  rintro x c st' _ hx ⟨rs,rest,rfl,J,o⟩;have zz:=(sz J).2;have zs:=(sz J).1;generalize hlo:rs.flatten.length=lo at *;by_cases c1:lo>=a₀.size
  ·show wpS _ _ _ _ (if lo>=a₀.size then _ else _) _ _;refine aX c1 ?_;have e:rest=[]:=Q8 (by exact Cp zs zz c1);subst e;exact Qy ⟨rs,_,rfl,J⟩
  show wpS _ _ _ _ (if lo>=a₀.size then _ else _) _ _;refine aW c1 ?_
  have xlo:x<=lo:=by
   rcases o with o|o
   ·exact o
   subst o;simp at zz;exact Co zs c1 zz
  refine Qu (tX (lo:=lo) (nrem:=a₀.size-lo) hL J.kind (ha2 J) (by exact Cn zs zz c1) (by exact Cm zs zz c1) λm st1 g1 m1 m2 up=>?_);dsimp -zeta only
  extract_lets n jp
  refine hX (λz:Nat=>jp () z) (λz st2=>Sg lo st' st2/\1<=z/\lo+z<=a₀.size/\Up κ (arrOf st2) lo z) (λn st2 hz=>?_) (λJJ=>?_)
  ·obtain⟨g2,n1,n2,up2⟩:=hz;have J2:=J.seg (by rw[hlo];exact g2);rw[hlo]at J2;have z2:=(sz J2).2;have up3:=xv up2 (by rw[(sz J2).1];exact n2);generalize hr2:(arrOf st2).toList.drop lo=rest2 at J2 up3 z2;rw[hlo]at z2;refine Qu (wpS_get ?_)
   extract_lets ln jp2
   refine hX (λ_:Unit=>jp2 ()) (λ_ st3=>∃rs3,RI κ kd a₀ st3 rs3 rest2/\rs3.flatten.length=lo) (λ_ st3 hz=>?_) (λJP=>?_)
   ·obtain⟨rs3,J3,l3⟩:=hz;refine Qu (wpS_modify ?_);refine Qy {rs3++[rest2.take n],rest2.drop n,?_,{?_,J3.perm,λr hr=>?_,?_,J3.kind,J3.fail},.inl ?_}
    ·have:(rs3++[rest2.take n]).flatten.length=lo+n:=by rw[List.flatten_append,Qk,l3];simp;omega
     rw[this]
    ·rw[List.flatten_append];show (arrOf st3).toList=_;rw[J3.arr];simp
    ·rcases Qp.mp hr with e|e
     ·exact J3.ok r e
     have e:r=rest2.take n:=by simpa using e
     subst e;refine{λz0=>?_,up3};have:=congrArg List.length z0;rw[Qv,List.length_nil]at this;omega
    ·show ((pendingOf st3).push (lo,n,0)).toList.map _=_;rw[Array.toList_push,Qt,J3.pend,im,Nat.zero_add,l3];show _=_++[(lo,(rest2.take n).length)];rw[Qv,show min n rest2.length=n by omega];rfl
    have:(rs3++[rest2.take n]).flatten.length=lo+n:=by rw[List.flatten_append,Qk,l3];simp;omega
    exact Cl xlo n1 l3 this
   cases hb:(pendingOf st2).back? with
   | none=>exact JP () st2 ⟨rs,J2,hlo⟩
   | some p =>
   obtain⟨s1,l1,pw1⟩:=p;dsimp -zeta only
   extract_lets pw
   refine Qu (wpS_mono (Xv (I:=λ_ c st3=>c=(none,())/\∃rs3,RI κ kd a₀ st3 rs3 rest2/\rs3.flatten.length=lo) (Q:=λc st3=>c=(none,())/\∃rs3,RI κ kd a₀ st3 rs3 rest2/\rs3.flatten.length=lo) ?_ (λ_ _ z=>z) ⟨rfl,rs,J2,hlo⟩) ?_)
   ·rintro y c st3 _ _ ⟨rfl,rs3,J3,l3⟩;have pl:=pX J3;refine Qu (wpS_get ?_);show wpS _ _ _ _ (match (if (pendingOf st3).size>1 then (pendingOf st3)[(pendingOf st3).size-2]? else none) with|some (_,_,older)=>_|x=>_) _ _;by_cases c2:(pendingOf st3).size>1
    ·rw[QL c2];obtain⟨q,hq⟩:∃q,(pendingOf st3)[(pendingOf st3).size-2]?=some q:={(pendingOf st3)[(pendingOf st3).size-2],by rw[Q5]};rw[hq];obtain⟨q1,q2,older⟩:=q;dsimp -zeta only;by_cases c3:older<=pw
     ·refine aX c3 ?_;exact Qy ⟨rfl,rs3,J3,l3⟩
     refine aW c3 ?_;obtain⟨u,X,Y,v,rfl,ul⟩:=vp (rs:=rs3) (i:=(pendingOf st3).size-2) (by exact Ck pl c2);rw[<-ul];refine Qu (iY hL ha J3 λZ st4 lz J4=>?_);refine aW Qn ?_;refine Qy {rfl,_,J4,?_};rw[<-l3];simp;exact Cj lz
    rw[QI c2];exact Qy ⟨rfl,rs3,J3,l3⟩
   rintro c st3 ⟨rfl,rs3,J3,l3⟩;refine Qu (wpS_modify ?_);exact JP () _ {rs3,J3.power rG,l3}
  have z1:=g1.size;by_cases c2:n<mr
  ·refine aX c2 ?_;refine Qu (wpS_lift (XR {rfl,?_}));have en:n=m:=rfl;refine Qu (xr (lo:=lo) (n:=min (a₀.size-lo) mr) (ok:=m) hL (g1.kind.trans J.kind) (g1.keys (ha2 J)) ⋯ ⋯ up λst2 g2 up2=>?_);refine aW Qn ?_;exact JJ _ st2 {g1.trans g2,⋯,⋯,up2}
  refine aW c2 ?_;exact JJ m st1 {g1,m1,⋯,up}
 case post =>
  rintro c st1 ⟨rs,lo,rfl,J⟩;have zz:=(sz J).2
  have short:∀(rs:List (List Keyed)),(∀r∈rs,r≠[]/\r.Pairwise (le κ))->rs.length<=rs.flatten.length:=λrs=>by
   induction rs with
   | nil=>intro _;simp
   | cons r rs ih =>
   intro hr;have h1:=(hr r (by simp)).1;have h2:=ih λr' h'=>hr r' (by simp[h']);have:r.length≠0:=λe=>h1 (Q8 e);rw[List.flatten_cons,Qk,QS];exact Ci h2 this
  have len0:=short rs J.ok;simp only[List.length_nil,Nat.add_zero]at zz;refine Qu (wpS_mono (Xv (I:=λx c st'=>c=(none,())/\∃rs,RI κ kd a₀ st' rs []/\rs.length+x<=a₀.size+1) (Q:=λc st'=>c=(none,())/\∃rs,RI κ kd a₀ st' rs []/\rs.length<=1) ?_ ?_ {rfl,rs,J,by exact Ch zz len0}) ?_)
  ·rintro x c st' _ hx ⟨rfl,rs,J,l⟩;have pl:=pX J;refine Qu (wpS_get ?_);show wpS _ _ _ _ (if (pendingOf st').size<=1 then _ else _) _ _;by_cases c2:(pendingOf st').size<=1
   ·refine aX c2 ?_;exact Qy {rfl,rs,J,by exact Cg pl c2}
   refine aW c2 ?_
   extract_lets i bf j
   have hj:j+1<rs.length:=by
    have h1:j=i-1\/j=i:=by
     show (if _ then i-1 else i)=i-1\/(if _ then i-1 else i)=i
     split
     ·exact .inl rfl
     exact .inr rfl
    exact Bv h1 c2 pl
   obtain⟨u,X,Y,v,rfl,ul⟩:=vp hj
   clear_value j
   subst ul;refine Qu (iY hL ha J λZ st4 lz J4=>?_);refine aW Qn ?_;refine Qy {rfl,_,J4,?_};simp only[Qk,QS]at l ⊢;omega
  ·rintro c st' ⟨rfl,rs,J,l⟩;exact{rfl,rs,J,by exact Cf zz l}
  rintro c st' ⟨rfl,rs,J,l⟩;refine Qy (h st' J.perm J.fail ?_);rw[J.arr,List.append_nil]
  match rs,l,J.ok with
  | [],_,_=>exact List.Pairwise.nil
  | [r],_,ok=>simpa using(ok r (by simp)).2
end
end Tm
namespace Tm
open PySem PySem.Spec PyProof.Rows
def leV (κ:PyProof.Rows.KeyKind) (u v:Value):Prop:=le κ (u,u) (v,v)
theorem oX {vs:List Value} {p:Keyed} (h:p∈vs.zip vs):p.1=p.2/\p.1∈vs:=by
 obtain⟨i,hi,e⟩:=Qo.mp h;rw[List.getElem_zip]at e;subst e;exact{rfl,Xo _}
theorem vW {κ:PyProof.Rows.KeyKind} {vs:List Value} {xs:Array Keyed} (hp:xs.Perm (pairsOf vs)) (hs:xs.toList.Pairwise (le κ)):((xs.map (·.2)).toList).Perm vs/\((xs.map (·.2)).toList).Pairwise (leV κ):=by
 have hl:xs.toList.Perm (vs.zip vs):=by rw[<-pairsOf_toList];exact Array.perm_iff_toList_perm.mp hp
 have self:∀p∈xs.toList,p.1=p.2:=λp h=>(oX (hl.mem_iff.mp h)).1
 have e:vs=(vs.zip vs).map (·.2):=by
  rw[List.map_snd_zip];exact Qh _
 refine{?_,?_}
 ·rw[Array.toList_map]
  conv=>rhs;rw[e]
  exact hl.map _
 rw[Array.toList_map,XJ];refine hs.imp_of_mem λ{a b} ha hb h=>?_;have h1:=self a ha;have h2:=self b hb;unfold leV le kv at *;rw[<-h1,<-h2];exact h
section
variable {prog:Program} {w:World} {A:Around} {E:F1} {s:Shared}
structure Can (prog:Program) (w:World) (κ:PyProof.Rows.KeyKind) (kd:SortKind) (h:Heap) (a:Addr) (vs:List Value):Prop where
 key:∀v∈vs,∃x,κ.keyOf v=some x
 lt:∀(A:Around) (s:Shared),(∀b o,b≠a->h.get? b=some o->s.heap.get? b=some o)->iW κ kd prog w A s
 kind:2<=vs.length->∀(A:Around) (E:F1) (s:Shared) (Q:SortKind->Shared->Prop),(∀b o,b≠a->h.get? b=some o->s.heap.get? b=some o)->Q kd s->wpAny (model prog w) A (keyKind' vs.toArray) Q E s
variable {vs:List Value} {a b d:Addr}
theorem kM {κ:PyProof.Rows.KeyKind} {kd:SortKind} {n:Nat} {P:Fin->Shared->Prop} (ho:s.heap.get? a=some (seqObj "list" vs.toArray n)) (c:Can prog w κ kd s.heap a vs) (hn:vs.length<=100000)
  (h:∀out:Array Value,out.toList.Perm vs->out.toList.Pairwise (leV κ)->P (.done (.ret .none)) { s with heap:=sortedHeap s.heap a vs out }):wpAny (model prog w) A (Builtin.«list.sort» {[.ref a],[]}) P E s:=by
 rw[list_sort_plain];have ha:a<s.heap.objs.size:=Ql ho;refine Qb (listItems_at ho rfl (Qb (listUpdate_at ho rfl ?_)));obtain⟨e1,ho1⟩:∃e1,(s.heap.update a (Obj.mapSeq λ_=>#[])).get? a=some (seqObj "list" #[] e1):={_,get?_update_seq ho (λ_=>#[])};refine Qb (seqEpoch_at ho1 rfl (Qb (wpAny_newTuple (Qb (wpAny_newList (Q2 ?_))) (by rw[Xx];show vs.length<=_;exact zk hn))))
 have keep:∀b o,b≠a->s.heap.get? b=some o->(((s.heap.update a (Obj.mapSeq λ_=>#[])).push (seqObj "tuple" vs.toArray 0)).push (seqObj "list" #[] 0)).get? b=some o:=λb o hb e =>
  Qd _ (Qd _ ((Q3 _ _ (XH hb)).trans e))
 have ho6:(((s.heap.update a (Obj.mapSeq λ_=>#[])).push (seqObj "tuple" vs.toArray 0)).push (seqObj "list" #[] 0)).get? a=some (seqObj "list" #[] e1):=Qd _ (Qd _ ho1);show wpAny (model prog w) A _ P E { s with heap:=((s.heap.update a (Obj.mapSeq λ_=>#[])).push (seqObj "tuple" vs.toArray 0)).push (seqObj "list" #[] 0) };dsimp only;have zs:vs.toArray.size=vs.length:=by simp
 by_cases c2:vs.toArray.size<2
 ·rw[QL c2,QL c2];refine Qb (Qf ?_);rw[StateT.run_pure];refine Qb (Qf (Qb (seqEpoch_at ho6 rfl (Qb (listUpdate_at ho6 rfl ?_ (hsz2:=by rw[Array.size_map];show (pairsOf vs).size<=_;rw[pairsOf_size,Xx];exact Ce hn zs c2))))));simp only[bne_self_eq_false,QU,if_false]
  have sh:(pairsOf vs).toList.Pairwise (le κ):=by
   rw[pairsOf_toList]
   match vs,zs,c2 with
   | [],_,_=>exact List.Pairwise.nil
   | [v],_,_=>exact List.pairwise_singleton _ _
   | v::u::r,zs,c2=>exact absurd c2 (by simp)
  obtain⟨p1,p2⟩:=vW (Array.Perm.refl _) sh;exact Qf (h _ p1 p2)
 rw[QI c2,QI c2];refine Qb (c.kind (by exact Cd hn zs c2) _ _ _ _ keep ?_)
 refine Qb (Xp (vb (κ:=κ) (kd:=kd) (a₀:=pairsOf vs) (st:=SortSt.mk' kd (vs.toArray.zip vs.toArray) #[] 7 none) (Q:=λ_ st'=>(arrOf st').Perm (pairsOf vs)/\failedOf st'=none/\(arrOf st').toList.Pairwise (le κ))
  (c.lt _ _ keep) (λp hp=>?_) {rfl,Array.Perm.refl _,λr hr=>(nomatch hr),rfl,rfl,rfl} λst' a1 a2 a3=>⟨a1,a2,a3⟩) ?_ λ_ _ e=>e)
 ·rw[pairsOf_toList]at hp;exact c.key _ (oX hp).2
 rintro⟨⟨⟩,st'⟩ s' ⟨rfl,hp,hf,hs⟩;dsimp only;refine Qb (seqEpoch_at ho6 rfl (Qb (listUpdate_at ho6 rfl ?_ (hsz2:=by refine QX (Nat.le_of_eq ((Array.size_map ..).trans (hp.size_eq.trans (pairsOf_size _)))) ?_;rw[Xx];exact Cc hn zs c2))));rw[hf];simp only[bne_self_eq_false,QU,if_false];obtain⟨p1,p2⟩:=vW hp hs;exact Qf (h _ p1 p2)
theorem fN {h:Heap} {out:Array Value} {o:Obj} (hb:b≠a) (e:h.get? b=some o):(sortedHeap h a vs out).get? b=some o:=by
 unfold sortedHeap;exact(Q3 _ _ (XH hb)).trans (Qd _ (Qd _ ((Q3 _ _ (XH hb)).trans e)))
theorem gz {h:Heap} {vs:List Value} {out:Array Value} {n:Nat} (e:h.get? a=some (seqObj "list" vs.toArray n)):∃m,(sortedHeap h a vs out).get? a=some (seqObj "list" out m):=by
 unfold sortedHeap;exact{_,get?_update_seq (Qd _ (Qd _ (get?_update_seq e (λ_=>#[])))) (λ_=>out)}
theorem gj {κ:Heap->PyProof.Rows.KeyKind} {kd:SortKind} {r:Value} {Q:F1} {G:Heap->List Value->Prop}
  (col:∀(A:Around) (E:F1) (R:List Value->Shared->Prop),A.handled=none->(∀h' tk vs,(∀b o,s.heap.get? b=some o->h'.get? b=some o)->s.heap.objs.size<=h'.objs.size->G h' vs->R vs { s with heap:=h',toks:=tk })->wpAny (model prog w) A (collect r) R E s)
  (hh:A.handled=none) (can:∀h' vs D,(∀b o,s.heap.get? b=some o->h'.get? b=some o)->G h' vs->D=h'.objs.size->vs.length<=100000/\Can prog w (κ h') kd (h'.push (seqObj "list" vs.toArray 0)) D vs)
  (h:∀D h' tk vs h1 (out:Array Value) m,(∀b o,s.heap.get? b=some o->h1.get? b=some o)->G h1 vs->(∀b o,h1.get? b=some o->h'.get? b=some o)->s.heap.objs.size<=D->h1.objs.size<=D->h'.get? D=some (seqObj "list" out m)->out.toList.Perm vs->out.toList.Pairwise (leV (κ h1))->Q (.ref D) { s with heap:=h',toks:=tk }) :
  wpAny (model prog w) A (call (.builtin "sorted") [r]) Q E s:=by
 refine Calls.call_function_entry kind_sorted plain_sorted entry_sorted (args_sorted1 _) ?_;unfold Builtin.«sorted»;refine Qb (m:=checkCount "sorted" 1 1 _) (Qf ?_);refine Qb (col A.in1 E _ hh λh1 tk vs k1 z1 g1=>?_);obtain⟨len,_⟩:=can h1 vs h1.objs.size k1 g1 rfl;refine Qb (wpAny_newList ?_ (by rw[Xx];exact zk len));obtain⟨_,cn⟩:=can h1 vs h1.objs.size k1 g1 rfl;have hoL:(h1.push (seqObj "list" vs.toArray 0)).get? h1.objs.size=some (seqObj "list" vs.toArray 0):=Qq _ rfl;refine Qb (Q2 (XF (s:={ s with heap:=h1.push (seqObj "list" vs.toArray 0),toks:=tk }) slot_list_sort ⟨_,hoL,rfl⟩ entry_list_sort (kM hoL cn len λout p1 p2=>{_,rfl,?_}) (args_list_sort _)));obtain⟨m,at'⟩:=gz (vs:=vs) (out:=out) hoL;exact Qf {_,rfl,h _ _ _ vs h1 out m k1 g1 (λb o e=>fN (Qz (Ql e)) (Qd _ e)) z1 (Qh _) at' p1 p2}
theorem w9 {T:String} {r:Addr} {n:Nat} {P:Nat->Value->Prop} {OK:Heap->Prop} {R:List Value->Shared->Prop} (K:PySem.W.KdlSrc prog w T r d n P OK) (hh:A.handled=none) (ok:OK s.heap) (hn:n<=sizeLine)
  (h:∀(g:Heap) (tk:Nat) (acc:Array Value),(∀b o,s.heap.get? b=some o->g.get? b=some o)->s.heap.objs.size<=g.objs.size->PySem.ItemsOf P acc n->R acc.toList { s with heap:=g,toks:=tk }):wpAny (model prog w) A (collect (.ref r)) R E s:=by
 obtain⟨l1,l2⟩:=K.there _ ok;unfold collect;refine Qb (wpAny_runValue (Xs entry_proto_collect' ?_));rw[Xg PySem.F.plain_proto_collect _];refine Qb (wpAny_newObj_type (Qf {plainId_quiet PySem.F.plain_list_iadd _,Xs entry_list_iadd' ?_}));rw[Xg PySem.F.plain_list_iadd _]
 refine Xp (PySem.W.kdl_extend (A:=A) (s:={ s with heap:=s.heap.push { cls:=.type "list", data:=.seq ([]:List Value).toArray } }) (R:=λq s'=>∃(g:Heap) (tk:Nat) (acc:Array Value) (c:Nat),q=.ok (.ret (.ref s.heap.objs.size))/\s'={ s with heap:=g,toks:=tk } /\
   (∀b o,s.heap.get? b=some o->g.get? b=some o)/\g.get? s.heap.objs.size=some { cls:=.type "list", dict:=none,data:=.seq acc c,slots:=#[] }/\PySem.ItemsOf P acc n)
  K hh (K.keep _ _ ok λb _ o e=>Qd _ e) s.heap.objs.size (XE l1) (XE l2) (.ref s.heap.objs.size) 0 (Qq _ rfl)
  (λg tk acc c k at' it=>{g,tk,acc,c,rfl,rfl,λb o e=>k b o (Qz (Ql e)) (Qd _ e),at',it}) hn) (λfn s' x=>?_) λe s' x=>?_
 ·cases fn with
  | done f =>
   obtain⟨g,tk,acc,c,e,rfl,k,at',it⟩:=x;cases e;exact Qb (wpAny_load at' (Qf (h g tk acc k (Xy (Ql at')) it)))
  | again c1 =>
   refine{x.1,codeAny_mono x.2 λq s2 y=>?_};obtain⟨g,tk,acc,c,rfl,rfl,k,at',it⟩:=y;exact Qb (wpAny_load at' (Qf (h g tk acc k (Xy (Ql at')) it)))
 obtain⟨_,_,_,_,z,_⟩:=x;cases z
theorem k_ {h:Heap} {ss:List Str} (hS:StrsAre vs ss):Can prog w PyProof.Rows.strKind oneType' h a vs where
 key v hv:=by
  obtain⟨x,t,e⟩:=hS.all v hv;exact{x.cps.toList,by rw[e]}
 lt A s _:=λE x y a b Q ha hb hq=>by rw[keyLt'_oneType];exact strKind_oneLt prog w A E s x y a b ha hb hq
 kind h2 A E s Q _ hq:=by
  match vs,hS,h2 with
  | v₁::v₂::rest,hS,_=>rw[keyKind_strs hS];exact Qf hq
end
end Tm
set_option maxHeartbeats 4000000
namespace L2
open PySem PySem.Spec PyProof.Rows
def Fz:HO->Prop
 | .dK _=>True
 | .dT _=>True
 | .lst _=>True
 | _=>False
def back (H:Hp) (a:Addr) (H':Hp):Hp:=λb=>if b=a then H a else H' b
variable {a b:Addr} {H H':Hp}
theorem gy:back H a H' a=H a:=QL rfl
theorem bY (h:b≠a):back H a H' b=H' b:=QI h
section
variable {X:Cx} {pins:F2} {U σ':St} {H H':Hp} {s s':Shared} {a:Addr} {u:HO} {o:Obj}
theorem jv (r:Rd H a u):∃v,H a=some v:=by
 rcases r with r|⟨o,r⟩ <;> exact⟨_,r⟩
theorem yU (r:Rd H a u) (f:Fz u):(∀xs,H a≠some (.tup xs))/\(∀ps,H a≠some (.tbl ps))/\(∀x,H a≠some (.own x))/\∀ob v,H a=some (.frz ob v)->v=u:=by
 rcases r with r|⟨o,r⟩
 ·refine{λxs z=>?_,λps z=>?_,λx z=>?_,λob v z=>?_} <;> (rw[r]at z;cases z;exact f.elim)
 refine{λxs z=>?_,λps z=>?_,λx z=>?_,λob v z=>?_} <;> (rw[r]at z;cases z);rfl
theorem Inv.freeze (I:Inv X pins U H s) (r:Rd H a u) (f:Fz u) (e:s.heap.get? a=some o):Inv X pins U (upd H a (.frz o u)) s:=by
 obtain⟨v,hv⟩:=jv r;obtain⟨n1,n2,n3,n4⟩:=yU r f;have ne:∀{b},H b=none->b≠a:=λh z=>by rw[z,hv]at h;cases h
 have ok:=r.ok I.hok;refine{I.ok,I.os,I.bare,{I.base.keep,I.base.slot,λb ob q n hx=>?_,I.base.there,λb xs q=>?_,λb ob w q=>?_,λb ps q=>?_},I.loc,I.cell,?_,λx c h=>?_,λp hp=>?_,λb w q=>?_,I.len}
 ·have:=I.base.free b ob q n hx;rw[am (ne this)];exact this
 ·have:=I.base.tups b xs q;rw[am (λz=>n1 xs (by rw[<-z];exact this))];exact this
 ·have z:=I.base.frzs b ob w q;by_cases hb:b=a
  ·subst hb;have ew:=n4 ob w z;subst ew;obtain⟨e1,_⟩:=I.hok b _ z;rw[e]at e1;cases e1;exact af
  rw[am hb];exact z
 ·obtain⟨more,z⟩:=I.base.tbls b ps q;exact{more,by rw[am (λy=>n2 _ (by rw[<-y];exact z))];exact z}
 ·rw[am (ne I.free)];exact I.free
 ·rw[am (ne (I.freeC x c h))];exact I.freeC x c h
 ·obtain⟨p1,p2,p3,p4,p5⟩:=I.pin p hp;exact{p1,by rw[am (ne p2)];exact p2,p3,p4,p5}
 have st:∀{b w},bD X.prog X.w H s.heap b w->bD X.prog X.w (upd H a (.frz o u)) s.heap b w:=λh=>h.stay (λ_ _ _ q=>q) (λd q=>by rw[am (λz=>n3 _ (by rw[<-z];exact q))];exact q) λd xs q=>by rw[am (λz=>n1 _ (by rw[<-z];exact q))];exact q
 by_cases hb:b=a
 ·subst hb;rw[af]at q;cases q;exact{e,st ok}
 rw[am hb]at q;exact st (I.hok b w q)
theorem Inv.thaw (I:Inv X pins U H s) (r:Rd H a u) (f:Fz u) (e:s.heap.get? a=some o) (J:Inv X pins σ' H' s') (h':H' a=some (.frz o u)):Inv X pins σ' (back H a H') s':=by
 obtain⟨v,hv⟩:=jv r;obtain⟨n1,n2,n3,n4⟩:=yU r f;have ne:∀{b},H' b=none->b≠a:=λh z=>by rw[z,h']at h;cases h
 have ok:=J.hok a _ h';refine{J.ok,J.os,J.bare,{J.base.keep,J.base.slot,λb ob q n hx=>?_,J.base.there,λb xs q=>?_,λb ob w q=>?_,λb ps q=>?_},J.loc,J.cell,?_,λx c h=>?_,λp hp=>?_,λb w q=>?_,J.len}
 ·have:=J.base.free b ob q n hx;rw[bY (ne this)];exact this
 ·have:=J.base.tups b xs q;rw[bY (λz=>by rw[z,h']at this;cases this)];exact this
 ·by_cases hb:b=a
  ·subst hb;rw[gy];exact I.base.frzs b ob w q
  rw[bY hb];exact J.base.frzs b ob w q
 ·obtain⟨more,z⟩:=J.base.tbls b ps q;exact{more,by rw[bY (λy=>by rw[y,h']at z;cases z)];exact z}
 ·rw[bY (ne J.free)];exact J.free
 ·rw[bY (ne (J.freeC x c h))];exact J.freeC x c h
 ·obtain⟨p1,p2,p3,p4,p5⟩:=J.pin p hp;exact{p1,by rw[bY (ne p2)];exact p2,p3,p4,p5}
 have st:∀{b w},bD X.prog X.w H' s'.heap b w->bD X.prog X.w (back H a H') s'.heap b w:=λh=>h.stay (λ_ _ _ q=>q) (λd q=>by rw[bY (λz=>by rw[z,h']at q;cases q)];exact q) λd xs q=>by rw[bY (λz=>by rw[z,h']at q;cases q)];exact q
 by_cases hb:b=a
 ·subst hb;rw[gy]at q;rcases r with r|⟨o2,r⟩
  ·rw[r]at q;cases q;exact st ok.2
  obtain⟨e2,_⟩:=I.hok b _ r;rw[e]at e2;cases e2;rw[r]at q;cases q;exact{ok.1,st ok.2}
 rw[bY hb]at q;exact st (J.hok b w q)
noncomputable def yF (D:Ends) (H:Hp) (a:Addr) (o:Obj) (u:HO):Ends where
 nx:=λσ' H'=>H' a=some (.frz o u)/\D.nx σ' (back H a H')
 bk:=λσ' H'=>H' a=some (.frz o u)/\D.bk σ' (back H a H')
 ct:=λσ' H'=>H' a=some (.frz o u)/\D.ct σ' (back H a H')
 rt:=λv H'=>H' a=some (.frz o u)/\D.rt v (back H a H')
def Bb (t:TS):TS:=λD U H=>∃a u,Rd H a u/\Fz u/\∀o,t (yF D H a o u) U (upd H a (.frz o u))
theorem rc {st:Stmt} {t:TS} (h:PS X st t):PS X st (Bb t):=by
 intro pins s U H D I q;obtain⟨a,u,r,f,q⟩:=q;obtain⟨v,hv⟩:=jv r
 obtain⟨o,e⟩:∃o,s.heap.get? a=some o:=by
  rcases r with r|⟨o,r⟩
  ·have:=(I.hok a _ r)
   cases u with
   | lst xs=>obtain⟨_,_,_,_,e⟩:=this;exact⟨_,e⟩
   | dK kvs=>obtain⟨_,_,_,_,o,_,_,e,_⟩:=this;exact⟨_,e⟩
   | dT kvs=>obtain⟨_,_,_,_,o,_,_,e,_⟩:=this;exact⟨_,e⟩
   | _=>exact f.elim
  exact{o,(I.hok a _ r).1}
 refine Xp (h pins s U _ _ (I.freeze r f e) (q o)) (λfl s' z=>?_) λ_ _ z=>z
 cases fl with
 | next=>obtain⟨σ',H',J,h1,h2⟩:=z;exact{σ',_,I.thaw r f e J h1,h2}
 | brk=>obtain⟨σ',H',J,h1,h2⟩:=z;exact{σ',_,I.thaw r f e J h1,h2}
 | cont=>obtain⟨σ',H',J,h1,h2⟩:=z;exact{σ',_,I.thaw r f e J h1,h2}
 | ret w=>obtain⟨v,σ',H',J,rv,h1,h2⟩:=z;exact{v,σ',_,I.thaw r f e J h1,rv,h2}
def yK (t:TE):TE:=λU H Q=>∃a u,Rd H a u/\Fz u/\∀o,t U (upd H a (.frz o u)) λv H'=>H' a=some (.frz o u)/\Q v (back H a H')
theorem rg {ex:Expr} {t:TE} (h:PE X ex t):PE X ex (yK t):=by
 intro pins s U H Q I q;obtain⟨a,u,r,f,q⟩:=q
 obtain⟨o,e⟩:∃o,s.heap.get? a=some o:=by
  rcases r with r|⟨o,r⟩
  ·have:=(I.hok a _ r)
   cases u with
   | lst xs=>obtain⟨_,_,_,_,e⟩:=this;exact⟨_,e⟩
   | dK kvs=>obtain⟨_,_,_,_,o,_,_,e,_⟩:=this;exact⟨_,e⟩
   | dT kvs=>obtain⟨_,_,_,_,o,_,_,e,_⟩:=this;exact⟨_,e⟩
   | _=>exact f.elim
  exact{o,(I.hok a _ r).1}
 refine Xp (h pins s U _ _ (I.freeze r f e) (q o)) (λv s' z=>?_) λ_ _ z=>z;obtain⟨v',H',J,rv,h1,h2⟩:=z;exact{v',_,I.thaw r f e J h1,rv,h2}
end
def Itd (a:Addr) (o:Obj) (kvs:List (Key × V)):It :=
 {λi H=>H a=some (.frz o (.dK kvs))/\i<kvs.length,λi H x H'=>H'=H/\∃k v,kvs[i]?=some (k,v)/\x=kV k,λi H=>H a=some (.frz o (.dK kvs))/\kvs.length<=i}
theorem wG {P:Program} {w:World} {k:Key} {u:Value} (h:(bo P w).is k u=true):aZ (kV k) u:=by
 rcases bI (show ja k u=true from h) with⟨i,t,rfl,rfl⟩|⟨x,t,rfl,rfl⟩
 ·exact⟨t,rfl⟩
 exact⟨t,rfl⟩
theorem KV.len {κ:Type} {xs:List (κ × V)} {ys:List (κ × Value)} (r:KV xs ys):xs.length=ys.length:=Paired.length r
theorem KV.get {κ:Type}:∀{xs:List (κ × V)} {ys:List (κ × Value)} {i:Nat} {k:κ} {v:V},KV xs ys->xs[i]?=some (k,v)->∃u,ys[i]?=some (k,u)/\aZ v u
 | _,_,_,_,_,.nil,e=>by simp at e
 | _,(k',u)::_,0,k,v,.cons r _,e=>by
  simp at e;subst e;obtain⟨r1,r2⟩:=r;have r1:k=k':=r1;subst r1;exact⟨u,rfl,r2⟩
 | _,_,i+1,k,v,.cons _ t,e=>by
  obtain⟨u,h1,h2⟩:=KV.get (i:=i) t (by simpa using e);exact{u,by simpa using h1,h2}
variable {kvs:List (Key × V)}
theorem gT {X:Cx} {pins:F2} {U:St} {s:Shared} {o:Obj} {es:Array DictEntry} {ep:Nat} (I:Inv X pins U H s) (h:H a=some (.frz o (.dK kvs))) (hd:o.data=.dict es ep) :
  ∃vs,KV kvs vs/\s.heap.DictAt (bo X.prog X.w) a vs ep/\(a==sysModules)=false:=by
 obtain⟨e1,z,y,vs,rel,ob,es',ep',e2,c,d,r⟩:=I.hok a _ h;rw[e1]at e2;cases e2;rw[hd]at d;cases d;exact{vs,rel,⟨o,es,e1,c,hd,r⟩,y}
theorem t6 {P:Program} {w:World} {K:PySem.W.Frag} {tg:Expr} (a it:Addr) (o:Obj) (kvs:List (Key × V)) (es:Array DictEntry) (ep:Nat) (hd:o.data=.dict es ep):Turn P w K tg (Itd a o kvs) [it] it (λi h=>h.IsKeyIter it a i kvs.length ep) where
 mem:=by simp
 obj:=λi h st b hb=>by
  have e:b=it:=by simpa using hb
  subst e;obtain⟨ob,e,c,d⟩:=st;exact{ob,e,λv z=>by rw[d]at z;cases z}
 keep:=λi h h' st k=>st.at λo e=>k it (by simp) o e
 item:=by
  intro X hP hw hK hc i pins s U H E I hf st hg;subst hP hw hK;obtain⟨hz,hi⟩:=hg;obtain⟨vs,rel,da,_⟩:=gT I hz hd;obtain⟨⟨k,v⟩,hx⟩:∃p,kvs[i]?=some p:={kvs[i],by simp[hi]};obtain⟨u,hu,ru⟩:=rel.get hx;obtain⟨f0,f1,f2,f3,f4,f5⟩:=hf it (by simp);have st0:=st;rw[rel.len]at st;refine wpAny_pyNext_dict_item st da hu λkey h' hkey st' sb=>?_;have I1:Inv X pins U H { s with heap:=h' }:=I.turned (t':=s.toks) (λb o hb e=>(sb.2 b hb).trans e) f0 f1 f3 f4 f5;rw[<-rel.len]at st';obtain⟨ob,e,c,d⟩:=id st';exact{key,rfl,wM (s:={ s with heap:=h' }) e c d (by decide) {kV k,H,I1,wG hkey,⟨rfl,k,v,hx,rfl⟩,st',λb hb=>(hf b hb).1} }
 done:=by
  intro X hP hw hK hc i pins s U H E I hf st hg;subst hP hw hK;obtain⟨hz,hi⟩:=hg;obtain⟨vs,rel,da,_⟩:=gT I hz hd;obtain⟨f0,f1,f2,f3,f4,f5⟩:=hf it (by simp);rw[rel.len]at st;exact wpAny_pyNext_dict_end (I.ok.hd hc) st da (Xb (by rw[<-rel.len];exact hi)) λh' eb=>{rfl,I.turned (t':=s.toks) (λb o hb e=>eb b o hb e) f0 f1 f3 f4 f5}
 self:=λ_ _ _ _ _ st h=>wpAny_pyIter_keyiter st h
def wJ (tl:TE):TI:=λU H R=>tl U H λx H1=>∃a o kvs,x=.ref a/\H1 a=some (.frz o (.dK kvs))/\R (Itd a o kvs) H1
section
variable {X:Cx} {tg:Expr}
theorem eZ {l:Expr} {tl:TE} (hl:PE X l tl):PI X tg l (wJ tl):=by
 intro pins s U H R I h;refine thn (hl pins s U H _ I h) λv s1 ⟨x,H1,I1,r1,q1⟩=>?_;obtain⟨a,o,kvs,e,hz,q⟩:=q1;subst e;cases r1;obtain⟨e1,_,_,vs,rel,ob,es,ep,e2,c,d,r⟩:=I1.hok a _ hz;rw[e1]at e2;cases e2;obtain⟨vs,rel,da,hm⟩:=gT I1 hz d;refine wpAny_pyIter_dict hm da ?_;refine{s1.heap.objs.size,[s1.heap.objs.size],_,_,H1,rfl,I1.kept (t':=s1.toks) λb o e=>Qd _ e,t6 a _ o kvs es ep d,{_,Qq _ rfl,rfl,by rw[rel.len];rfl},λb hb=>?_,q};have e:b=s1.heap.objs.size:=by simpa using hb
 subst e;exact I1.fpOk (Qh _) (I1.hok.fresh (Qh _))
end
theorem kQ {o:Obj} {g:TG} {tb:TS} {D:Ends} {U:St} (Pv:Nat->St->Hp->Prop) (h0:Pv 0 U H) (hl:∀i U H,i<=kvs.length->Pv i U H->H a=some (.frz o (.dK kvs)))
  (hs:∀i k v U H,kvs[i]?=some (k,v)->Pv i U H->g (kV k) U H λσ2 H2=>tb { D with nx:=Pv (i+1),ct:=Pv (i+1),bk:=D.nx } σ2 H2) (hd:∀U H,Pv kvs.length U H->D.nx U H) :
  ∃W:Nat->Nat->St->Hp->Prop,(∃m,W 0 m U H)/\∀i m U H,W i m U H ->
   ((Itd a o kvs).stop i H/\D.nx U H)\/((Itd a o kvs).go i H/\∃N:St->Hp->Prop,(∀σ' H',N σ' H'->∃m',m'<m/\W (i+1) m' σ' H')/\∀x H',(Itd a o kvs).yld i H x H'->g x U H' λσ2 H2=>tb { D with nx:=N,ct:=N,bk:=D.nx } σ2 H2):=by
 refine{λi m U H=>m=kvs.length-i/\i<=kvs.length/\Pv i U H,{kvs.length,by simp,QG _,h0},?_};rintro i m U H ⟨rfl,hi,p⟩;have q:=hl i U H hi p;by_cases hlt:i<kvs.length
 ·refine .inr {⟨q,hlt⟩,Pv (i+1),λσ' H' p'=>{kvs.length-(i+1),by exact om6 hlt,rfl,hlt,p'},λx H' y=>?_};obtain⟨e,k,v,hk,ex⟩:=y;subst e ex;exact hs i k v U _ hk p
 have e:i=kvs.length:=by exact om0 hi hlt
 subst e;exact .inl { {q,Qh _},hd U H p}
section
variable {X:Cx} {o e f:Expr} {apos cpos:Pos} {td ty tx:TE}
end
def leT (a b:Str):Prop:=¬(b.cps.toList<a.cps.toList)
theorem qt {a b:Str} (h1:leT a b) (h2:leT b a):a=b:=by
 have e:=List.le_antisymm (List.not_lt.mp h1) (List.not_lt.mp h2);cases a;cases b;exact congrArg Str.mk (Array.toList_inj.mp e)
theorem pD {xs ys:List Str} (hx:xs.Pairwise leT) (hy:ys.Pairwise leT) (p:xs.Perm ys):xs=ys:=List.Perm.eq_of_pairwise (λa b _ _ h1 h2=>qt h1 h2) hx hy p
theorem jQ {ts:List Str} {out:List Value}:∀{us:List Value},StrsAre us ts->out.Perm us->out.Pairwise (Tm.leV PyProof.Rows.strKind)->∃ss,StrsAre out ss/\ss.Perm ts/\ss.Pairwise leT:=λ{us} h p s=>by
 have all:∀v∈out,∃x t,v=.str x t:=λv hv=>h.all v (p.mem_iff.mp hv);refine{out.map strOf,strsAre_map out all,by rw[<-h.strs];exact p.map _,?_};rw[XJ];refine s.imp_of_mem λ{a b} ha hb q=>?_;obtain⟨x,t,rfl⟩:=all a ha;obtain⟨y,u,rfl⟩:=all b hb;have q:decide (y.cps.toList<x.cps.toList)=false:=q;show ¬(y.cps.toList<x.cps.toList);simpa using q
theorem gM:∀{ys:List Str} {us:List Value},StrsAre us ys->ba (ys.map V.str) us
 | _,_,.nil=>.nil
 | _,_,.cons x t h=>.cons ⟨t,rfl⟩ (gM h)
theorem sG:∀{as:List Value} {ss:List Str},as.length=ss.length->(∀(j:Nat) v,as[j]?=some v->∃x t,ss[j]?=some x/\v=.str x t)->StrsAre as ss
 | [],[],_,_=>.nil
 | [],_::_,h,_=>by simp at h
 | _::_,[],h,_=>by simp at h
 | a::as,x::ss,h,f=>by
  obtain⟨y,t,e1,e2⟩:=f 0 a rfl;cases e1;subst e2;exact .cons x t (sG (by simpa using h) λj v e=>by obtain⟨y,t,e1,e2⟩:=f (j+1) v (by simpa using e);exact{y,t,by simpa using e1,e2})
section
variable {X:Cx}
def Ec (K:PySem.W.Frag) (H:Hp) (l:Addr) (ss:List Str):Prop:=SqL K H l (ss.map V.str)\/∃kvs,Rd H l (.dK kvs)/\kvs.map (·.1)=ss.map Sum.inr
def z_ (K:PySem.W.Frag):List V->Hp->VK->Prop:=λxs H Q=>∃(l:Addr) (ss:List Str),xs=[.ref l]/\Ec K H l ss/\ss.length<=100000/\∀(p:Addr) (ss':List Str),H p=none->ss'.Perm ss->ss'.Pairwise leT->Q (.ref p) (upd H p (.lst (ss'.map V.str)))
theorem gY (hc:X.calm=true):dP X (.builtin "sorted") (z_ X.K):=by
 intro pins s U H xs us Q I r h;obtain⟨l,ss,rfl,src,hz,q⟩:=h;obtain⟨u,rfl,ru⟩:=d_ r;cases ru
 have fin:∀(D:Addr) (h':Heap) (tk:Nat) (vs:List Value) (h1:Heap) (out:Array Value) (m:Nat),(∀b o,s.heap.get? b=some o->h1.get? b=some o)->StrsAre vs ss->(∀b o,h1.get? b=some o->h'.get? b=some o)->s.heap.objs.size<=D->h1.objs.size<=D->h'.get? D=some (seqObj "list" out m)->out.toList.Perm vs->out.toList.Pairwise (Tm.leV PyProof.Rows.strKind)->EP X pins U Q (.ref D) { s with heap:=h',toks:=tk }:=λD h' tk vs h1 out m k1 g1 k2 hle hD at' p1 p2=>by
  obtain⟨ss',so,pm,st⟩:=jQ g1 p1 p2;have lo:ss'.length=ss.length:=pm.length_eq;exact{.ref D,_,I.laid (o:=.lst (ss'.map V.str)) (t':=tk) (λb o g=>k2 b o (k1 b o g)) hle {by rw[Qa,Xx];exact v6 hz lo,out.toList,m,gM so,at'},rfl,q _ ss' (I.hok.fresh hle) pm st}
 rcases src with hl|⟨kvs,rd,ek⟩
 ·obtain⟨its,rv,pl,_⟩:=I.list hl;have sa:=gN rv;have hlen:its.length=ss.length:=by rw[<-rv.length,Qa]
  refine Tm.gj (s:=s) (κ:=λ_=>PyProof.Rows.strKind) (kd:=oneType') (G:=λ_ vs=>StrsAre vs ss) (λA E R _ hR=>collect_list pl.isList (hR _ _ its (λb o e=>?_) (by rw[Heap.size_update,size_push'];exact Nat.le_succ _) sa) (by rw[Xx];exact v6 hz hlen)) (I.ok.hd hc) (λh' vs D k g _=>{by rw[g.length];exact hz,Tm.k_ g}) fin;exact(Q3 _ _ (XE (Ql e))).trans (Qd _ e)
 obtain⟨z,hm,vs,rel,dd⟩:=jd I.hok rd;obtain⟨ep,da⟩:=dd.dictAt
 have kl:vs.length=ss.length:=by
  have:=congrArg List.length ek;rw[Qa,Qa]at this;rw[<-this];exact(KV.len rel).symm
 refine Tm.gj (s:=s) (κ:=λ_=>PyProof.Rows.strKind) (kd:=oneType') (G:=λ_ vs=>StrsAre vs ss) (λA E R hA hR=>Tm.w9 (PySem.W.kdl_dict (knd:=bo X.prog X.w) (kvs:=vs) (ep:=ep) hm) hA da (by rw[Xx];exact v6 hz kl) λh' tk acc k z it=>hR h' tk acc.toList k z ?_) (I.ok.hd hc) (λh' vs D k g _=>{by rw[g.length];exact hz,Tm.k_ g}) fin;have al:acc.toList.length=ss.length:=by rw[Qs,it.1,kl]
 have at_:∀(j:Nat) v,acc.toList[j]?=some v->∃x t,ss[j]?=some x/\v=.str x t:=λj v e=>by
  obtain⟨k,x,e1,e2⟩:=it.2 j v (by rw[<-QA];exact e)
  obtain⟨y,e3⟩:∃y,kvs[j]?=some (k,y):=by
   have hj:j<kvs.length:=by rw[KV.len rel];exact(Qe.mp e1).1
   obtain⟨u,hu,_⟩:=KV.get (i:=j) (k:=kvs[j].1) (v:=kvs[j].2) rel (by rw[Qc hj]);rw[e1]at hu;cases hu;exact{kvs[j].2,by rw[Qc hj]}
  have e4:=congrArg (·[j]?) ek;simp only[Qi,e3]at e4
  cases e5:ss[j]? with
  | none=>rw[e5]at e4;cases e4
  | some y' =>
  rw[e5]at e4;have e6:k=Sum.inr y':=Q0 e4;subst e6;obtain⟨t,e7⟩:=wG e2;exact⟨y',t,rfl,e7⟩
 exact sG al at_
end
section
variable {X:Cx}
end
section
variable {X:Cx}
def sQ (T:Addr):R2:=λx y H Q=>x=.ref T/\((y=.str "0" /\ Q (.str "1") H)\/(y=.str "1" /\ Q (.str "0") H))
theorem yk {T:Addr} (hT:sD X.K T [("0", .flat (.str "1")),("1", .flat (.str "0"))]):IxR X (sQ T):=by
 intro value slice pins s U H x y v u Q I rx ry h hs;obtain⟨e1,h⟩:=h;subst e1;cases rx;have here:KTD.Here X.base s.heap T [("0", .flat (.str "1")),("1", .flat (.str "0"))]:={KTD.text_of_look (get:=λa=>X.K.lookup a) (λa o e=>I.mod.kin a o e) hT,I.bk};rcases h with⟨e,q⟩|⟨e,q⟩
 ·subst e;obtain⟨t,e⟩:=ry;subst e;refine KTD.item_textA here (by rfl) (by decide +kernel) ?_ hs;have e:decide (("0" : Str) = "0")=true:=by decide +kernel
  simp only[KTD.EachL,e,if_true];exact λt=>{.str "1", H,I.tok _,⟨_,rfl⟩,q}
 subst e;obtain⟨t,e⟩:=ry;subst e;refine KTD.item_textA here (by rfl) (by decide +kernel) ?_ hs;have e:decide (("1" : Str) = "0")=false:=by decide +kernel
 simp only[KTD.EachL,e,QU,if_false];exact λ_ t=>{.str "0", H,I.tok _,⟨_,rfl⟩,q}
end
end L2
namespace LZ
open PySem
section
variable {prog:Program} {w:World} {A:Around} {E:F1} {s:Shared}
abbrev IsZ (h:Heap) (z TI TO:Addr) (f0:Value) (f1:Bool):Prop :=
 h.get? z=some { cls:=.type "zip", dict:=none,data:=.fields #[f0,.bool f1,.bool false,.ref TI,.ref TO],slots:=#[] }
structure Apart5 (z TI TO i1 i2 l:Addr):Prop where
 TIz:TI≠z
 TOz:TO≠z
 i1z:i1≠z
 i2z:i2≠z
 TITO:TI≠TO
 TIi1:TI≠i1
 TIi2:TI≠i2
 TOi1:TO≠i1
 TOi2:TO≠i2
 i12:i1≠i2
 lz:l≠z
 lTO:l≠TO
 li1:l≠i1
 li2:l≠i2
variable {t:Tok} {x:Str} {it z i1 i2 l a:Addr} {ty:String}
theorem iG (hty:ty = "str_ascii_iterator" \/ ty = "str_iterator") {i c:Nat} {Q:F1} (hit:s.heap.IsStrIter it ty x t i) (hx:x.cps[i]?=some c)
  (hQ:∀h',h'.IsStrIter it ty x t (i+1)->Heap.SameBut it s.heap h'->Q (.str {#[c]} s.toks) { s with heap:=h',toks:=s.toks+1 }) :
  wpAny (model prog w) A (Builtin.SmallTypes.nextOf (.ref it)) Q E s:=by
 rcases hty with e|e
 ·subst e;exact wpAny_nextOf_ascii_item hit hx hQ
 subst e;exact wpAny_nextOf_wide_item hit hx hQ
variable {Q:Option Value->Shared->Prop} {xs:Array Value}
theorem rC (hty:ty = "str_ascii_iterator" \/ ty = "str_iterator") {TI TO:Addr} {k c:Nat} {v a b:Value} (D:Apart5 z TI TO i1 i2 l)
  (hz:IsZ s.heap z TI TO .none false) (hTI:IsPair s.heap TI (.ref i1) (.ref i2)) (hTO:IsPair s.heap TO a b) (h1:s.heap.IsListIter i1 l k) (h2:s.heap.IsStrIter i2 ty x t k) (hl:s.heap.IsList l xs) (hv:xs[k]?=some v) (hc:x.cps[k]?=some c)
  (hQ:∀h',IsZ h' z TI TO (rawInt s.heap.objs.size) false->(∃a b,IsPair h' TO a b)->h'.IsListIter i1 l (k+1)->h'.IsStrIter i2 ty x t (k+1)->IsPair h' s.heap.objs.size v (.str {#[c]} s.toks)->h'.objs.size=s.heap.objs.size+1 ->
   (∀c o,c≠z->c≠TO->c≠i1->c≠i2->s.heap.get? c=some o->h'.get? c=some o)->Q (some (.ref s.heap.objs.size)) { s with heap:=h',toks:=s.toks+1 }) :
  wpAny (model prog w) A (pyNext (.ref z)) Q E s:=by
 have hT:s.TypeIs (.ref z) "zip" := ⟨_,hz,rfl⟩;unfold pyNext
 refine Qb (wpAny_attempt (XW (name:=Str.ofString "__next__") hT F.slot_zip_next
  (XF F.slot_zip_next hT F.entry_zip_next ?_ (F.args_zip_next_1 _))))
 show wpAny _ _ (field (.ref z) 2 >>= _) _ _ _;refine Qb (Xr hz rfl (x:=.bool false) rfl ?_);show wpAny _ _ (field (.ref z) 3 >>= _) _ _ _;refine Qb (Xr hz rfl (x:=.ref TI) rfl ?_);refine Qb (wpAny_seqItems hTI rfl ?_);show wpAny _ _ (Builtin.SmallTypes.ownedTupleIsFree (.ref z) >>= _) _ _ _;refine Qb ?_;unfold Builtin.SmallTypes.ownedTupleIsFree;refine Qb (Xr hz rfl (x:=.none) rfl (Qf ?_));simp only[if_true];refine Qb (XR ?_);refine Qb (Xr hz rfl (x:=.ref TO) rfl ?_);refine Qb (Xk hz (by simp) λh₁ hz1 hs₁=>?_)
 replace hz1:IsZ h₁ z TI TO .ellipsis false:=hz1
 refine Qb ?_;simp only[List.zipIdx_cons,List.zipIdx_nil,List.forIn_cons,List.forIn_nil];refine Qb (Qb (wpAny_onRaise ?_));show wpAny _ _ (Builtin.SmallTypes.nextOf (.ref i1) >>= _) _ _ _;refine Qb (wpAny_nextOf_list_item (h1.extBut hs₁.extBut D.i1z) (hl.extBut hs₁.extBut D.lz) hv λh₂ h12 hs₂=>Qf ?_);have hTO2:IsPair h₂ TO a b:=hs₂.extBut _ _ D.TOi1 (hs₁.extBut _ _ D.TOz hTO);refine Qb (wpAny_seqItems hTO2 rfl ?_);refine Qb (wpAny_updateSeq_pair hTO2 λh₃ hTO3 hs₃=>?_)
 replace hTO3:IsPair h₃ TO v b:=hTO3
 refine Qb (wpAny_letGo (Qf ?_));refine Qb (Qb (wpAny_onRaise ?_));show wpAny _ _ (Builtin.SmallTypes.nextOf (.ref i2) >>= _) _ _ _;have h23:h₃.IsStrIter i2 ty x t k:=((h2.extBut hs₁.extBut D.i2z).extBut hs₂.extBut D.i12.symm).extBut hs₃.extBut D.TOi2.symm;refine Qb (iG hty h23 hc λh₄ h2₄ hs₄=>Qf ?_);have hTO4:IsPair h₄ TO v b:=hs₄.extBut _ _ D.TOi2 hTO3;refine Qb (wpAny_seqItems hTO4 rfl ?_);refine Qb (wpAny_updateSeq_pair hTO4 λh₅ hTO5 hs5=>?_)
 replace hTO5:IsPair h₅ TO v (.str {#[c]} s.toks):=hTO5
 refine Qb (wpAny_letGo (Qf (Qf ?_)));refine Qb (wpAny_seqItems hTO5 rfl ?_);refine Qb (wpAny_newTuple ?_);have hsz:h₅.objs.size=s.heap.objs.size:=by rw[hs5.1,hs₄.1,hs₃.1,hs₂.1,hs₁.1]
 have hz5:IsZ h₅ z TI TO .ellipsis false:=hs5.extBut _ _ D.TOz.symm (hs₄.extBut _ _ D.i2z.symm (hs₃.extBut _ _ D.TOz.symm (hs₂.extBut _ _ D.i1z.symm hz1)))
 have hk₅:∀c o,c≠z->c≠TO->c≠i1->c≠i2->s.heap.get? c=some o->h₅.get? c=some o:=λc o c1 c2 c3 c4 e =>
  hs5.extBut _ _ c2 (hs₄.extBut _ _ c4 (hs₃.extBut _ _ c2 (hs₂.extBut _ _ c3 (hs₁.extBut _ _ c1 e))))
 have h1₅:h₅.IsListIter i1 l (k+1):=((h12.extBut hs₃.extBut D.TOi1.symm).extBut hs₄.extBut D.i12).extBut hs5.extBut D.TOi1.symm;have h25:h₅.IsStrIter i2 ty x t (k+1):=h2₄.extBut hs5.extBut D.TOi2.symm;have hzlt:z<h₅.objs.size:=Ql hz5;show wpAny _ _ (Builtin.SmallTypes.ownedTupleHandOut (.ref z) (.ref h₅.objs.size) >>= _) _ _ _;refine Qb ?_;unfold Builtin.SmallTypes.ownedTupleHandOut;have hz6:IsZ (h₅.push { cls:=.type "tuple", data:=.seq #[v,.str {#[c]} s.toks] }) z TI TO .ellipsis false:=Qd _ hz5;refine Qb (Xk hz6 (by simp) λh₇ hz7 hs7=>?_)
 replace hz7:IsZ h₇ z TI TO (rawInt h₅.objs.size) false:=hz7
 refine Xk hz7 (by simp) λh₈ hz₈ hs8=>?_
 replace hz₈:IsZ h₈ z TI TO (rawInt h₅.objs.size) false:=hz₈
 have up:∀c o,c≠z->h₅.get? c=some o->h₈.get? c=some o:=λc o c1 e=>hs8.extBut _ _ c1 (hs7.extBut _ _ c1 (Qd _ e));have hT8:IsPair h₈ h₅.objs.size v (.str {#[c]} s.toks):=hs8.extBut _ _ (XE hzlt) (hs7.extBut _ _ (XE hzlt) (Qq _ rfl));have hz8:h₈.objs.size=h₅.objs.size+1:=by rw[hs8.1,hs7.1,Xd]
 rw[hsz]at hz₈ hT8 hz8;refine Qf {_,rfl,Qf ?_};show Q (some (.ref h₅.objs.size)) _;rw[hsz];exact hQ h₈ hz₈ {_,_,up _ _ D.TOz hTO5} (h1₅.at λo e=>up _ o D.i1z e) (let ⟨o,e,r⟩:=h25;{o,up _ o D.i2z e,r}) hT8 hz8 λc o c1 c2 c3 c4 e=>up c o c1 (hk₅ c o c1 c2 c3 c4 e)
theorem zO {o:Obj} {Q:Option Obj->Shared->Prop} (ho:s.heap.get? a=some o) (h:Q (some o) s):wpAny (model prog w) A (loadIfAlive a) Q E s:=by
 have h':Q (s.heap.get? a) s:=by rw[ho];exact h
 exact λ_ _ _=>h'
theorem rB (hty:ty = "str_ascii_iterator" \/ ty = "str_iterator") {TI TO T:Addr} {f1:Bool} {oT:Obj} {k c:Nat} {v:Value} (D:Apart5 z TI TO i1 i2 l)
  (hz:IsZ s.heap z TI TO (rawInt T) f1) (hT:s.heap.get? T=some oT) (hTI:IsPair s.heap TI (.ref i1) (.ref i2)) (h1:s.heap.IsListIter i1 l k) (h2:s.heap.IsStrIter i2 ty x t k) (hl:s.heap.IsList l xs) (hv:xs[k]?=some v) (hc:x.cps[k]?=some c)
  (hQ:∀h',IsZ h' z TI TO (rawInt T) true->h'.IsListIter i1 l (k+1)->h'.IsStrIter i2 ty x t (k+1)->IsPair h' s.heap.objs.size v (.str {#[c]} s.toks)->h'.objs.size=s.heap.objs.size+1 ->
   (∀c o,c≠z->c≠i1->c≠i2->s.heap.get? c=some o->h'.get? c=some o)->Q (some (.ref s.heap.objs.size)) { s with heap:=h',toks:=s.toks+1 }) :
  wpAny (model prog w) A (pyNext (.ref z)) Q E s:=by
 have hTy:s.TypeIs (.ref z) "zip" := ⟨_,hz,rfl⟩;unfold pyNext
 refine Qb (wpAny_attempt (XW (name:=Str.ofString "__next__") hTy F.slot_zip_next
  (XF F.slot_zip_next hTy F.entry_zip_next ?_ (F.args_zip_next_1 _))))
 show wpAny _ _ (field (.ref z) 2 >>= _) _ _ _;refine Qb (Xr hz rfl (x:=.bool false) rfl ?_);show wpAny _ _ (field (.ref z) 3 >>= _) _ _ _;refine Qb (Xr hz rfl (x:=.ref TI) rfl ?_);refine Qb (wpAny_seqItems hTI rfl ?_);show wpAny _ _ (Builtin.SmallTypes.ownedTupleIsFree (.ref z) >>= _) _ _ _;refine Qb ?_;unfold Builtin.SmallTypes.ownedTupleIsFree;refine Qb (Xr hz rfl (x:=rawInt T) rfl ?_);show wpAny _ _ (loadIfAlive ((T:Int).toNat) >>= _) _ _ _;rw[Xh];refine Qb (zO hT ?_);simp only[Option.isNone_some,QU,if_false];refine Qb (Xr hz rfl (x:=.bool f1) rfl ?_)
 cases f1 with
 | false =>
  simp only[show (Value.bool false != Value.bool true)=true from rfl,if_true];refine Qb (Xk hz (by simp) λh₁ hz1 hs₁=>Qf ?_)
  replace hz1:IsZ h₁ z TI TO (rawInt T) true:=hz1
  simp only[QU,if_false,List.forIn_toArray,List.forIn_cons,List.forIn_nil];refine Qb (Qb (Qb (Q2 ?_)));show wpAny _ _ (Builtin.SmallTypes.nextOf (.ref i1) >>= _) _ _ _;refine Qb (wpAny_nextOf_list_item (h1.extBut hs₁.extBut D.i1z) (hl.extBut hs₁.extBut D.lz) hv λh₂ h12 hs₂=>Qf ?_);refine Qf ?_;dsimp only;refine Qb (Qb (Q2 ?_));show wpAny _ _ (Builtin.SmallTypes.nextOf (.ref i2) >>= _) _ _ _;have h22:h₂.IsStrIter i2 ty x t k:=(h2.extBut hs₁.extBut D.i2z).extBut hs₂.extBut D.i12.symm;refine Qb (iG hty h22 hc λh₄ h2₄ hs₄=>Qf ?_);refine Qf (Qf ?_);dsimp only;show wpAny _ _ (newTuple [v,.str {#[c]} s.toks] >>= _) _ _ _;refine Qb (wpAny_newTuple ?_);have hsz:h₄.objs.size=s.heap.objs.size:=by rw[hs₄.1,hs₂.1,hs₁.1]
  have hz4:IsZ h₄ z TI TO (rawInt T) true:=hs₄.extBut _ _ D.i2z.symm (hs₂.extBut _ _ D.i1z.symm hz1);have hk₄:∀c o,c≠z->c≠i1->c≠i2->s.heap.get? c=some o->h₄.get? c=some o:=λc o c1 c3 c4 e=>hs₄.extBut _ _ c4 (hs₂.extBut _ _ c3 (hs₁.extBut _ _ c1 e));refine Qf {_,rfl,Qf ?_};show Q (some (.ref h₄.objs.size)) _;rw[hsz];exact hQ _ (Qd _ hz4) ((h12.extBut hs₄.extBut D.i12).at λo e=>Qd _ e) (let ⟨o,e,r⟩:=h2₄;{o,Qd _ e,r}) (by rw[<-hsz];exact Qq _ rfl) (by rw[Xd,hsz]) λc o c1 c3 c4 e=>Qd _ (hk₄ c o c1 c3 c4 e)
 | true =>
 simp only[show (Value.bool true != Value.bool true)=false from rfl,QU,if_false];refine Qf ?_;have hz1:IsZ s.heap z TI TO (rawInt T) true:=hz;have hs₁:Heap.SameBut z s.heap s.heap:=.refl ..;simp only[QU,if_false,List.forIn_toArray,List.forIn_cons,List.forIn_nil];refine Qb (Qb (Qb (Q2 ?_)));show wpAny _ _ (Builtin.SmallTypes.nextOf (.ref i1) >>= _) _ _ _;refine Qb (wpAny_nextOf_list_item (h1.extBut hs₁.extBut D.i1z) (hl.extBut hs₁.extBut D.lz) hv λh₂ h12 hs₂=>Qf ?_);refine Qf ?_;dsimp only;refine Qb (Qb (Q2 ?_));show wpAny _ _ (Builtin.SmallTypes.nextOf (.ref i2) >>= _) _ _ _;have h22:h₂.IsStrIter i2 ty x t k:=(h2.extBut hs₁.extBut D.i2z).extBut hs₂.extBut D.i12.symm;refine Qb (iG hty h22 hc λh₄ h2₄ hs₄=>Qf ?_);refine Qf (Qf ?_);dsimp only;show wpAny _ _ (newTuple [v,.str {#[c]} s.toks] >>= _) _ _ _;refine Qb (wpAny_newTuple ?_);have hsz:h₄.objs.size=s.heap.objs.size:=by rw[hs₄.1,hs₂.1,hs₁.1]
 have hz4:IsZ h₄ z TI TO (rawInt T) true:=hs₄.extBut _ _ D.i2z.symm (hs₂.extBut _ _ D.i1z.symm hz1);have hk₄:∀c o,c≠z->c≠i1->c≠i2->s.heap.get? c=some o->h₄.get? c=some o:=λc o c1 c3 c4 e=>hs₄.extBut _ _ c4 (hs₂.extBut _ _ c3 (hs₁.extBut _ _ c1 e));refine Qf {_,rfl,Qf ?_};show Q (some (.ref h₄.objs.size)) _;rw[hsz];exact hQ _ (Qd _ hz4) ((h12.extBut hs₄.extBut D.i12).at λo e=>Qd _ e) (let ⟨o,e,r⟩:=h2₄;{o,Qd _ e,r}) (by rw[<-hsz];exact Qq _ rfl) (by rw[Xd,hsz]) λc o c1 c3 c4 e=>Qd _ (hk₄ c o c1 c3 c4 e)
theorem qk {TI TO:Addr} {f0:Value} {f1:Bool} {k:Nat} {a b:Value} (hh:A.handled=none) (D:Apart5 z TI TO i1 i2 l)
  (hz:IsZ s.heap z TI TO f0 f1) (hf:(f0=.none/\f1=false/\∃a b,IsPair s.heap TO a b)\/∃(T:Addr) (oT:Obj),f0=rawInt (T:Nat)/\s.heap.get? T=some oT) (hTI:IsPair s.heap TI (.ref i1) (.ref i2)) (h1:s.heap.IsListIter i1 l k) (hl:s.heap.IsList l xs) (hv:xs[k]?=none)
  (hQ:∀h',(∀c o,c≠z->c≠i1->s.heap.get? c=some o->h'.get? c=some o)->Q none { s with heap:=h' }):wpAny (model prog w) A (pyNext (.ref z)) Q E s:=by
 have hTy:s.TypeIs (.ref z) "zip" := ⟨_,hz,rfl⟩;unfold pyNext
 refine Qb (wpAny_attempt (XW (name:=Str.ofString "__next__") hTy F.slot_zip_next
  (XF F.slot_zip_next hTy F.entry_zip_next ?_ (F.args_zip_next_1 _))))
 show wpAny _ _ (field (.ref z) 2 >>= _) _ _ _;refine Qb (Xr hz rfl (x:=.bool false) rfl ?_);show wpAny _ _ (field (.ref z) 3 >>= _) _ _ _;refine Qb (Xr hz rfl (x:=.ref TI) rfl ?_);refine Qb (wpAny_seqItems hTI rfl ?_);show wpAny _ _ (Builtin.SmallTypes.ownedTupleIsFree (.ref z) >>= _) _ _ _;refine Qb ?_;unfold Builtin.SmallTypes.ownedTupleIsFree;refine Qb (Xr hz rfl (x:=f0) rfl ?_)
 have fin:∀h' e,(∀c o,c≠z->c≠i1->s.heap.get? c=some o->h'.get? c=some o)->(∃o,h'.get? e=some o/\o.cls=.type "StopIteration") ->
   wpAny (model prog w) A (do if <-isInstance (.ref e) (.type "StopIteration") then pure none else throw (.ref e)) Q E { s with heap:=h' }:=λh' e hk ⟨o,ho,hc⟩ =>
  Qb (wpAny_isInstance (T := "StopIteration") (b:=true) ⟨o,ho,hc⟩ isSubtype_stop (Qf (hQ _ hk)))
 rcases hf with⟨e1,e2,a,b,hTO⟩|⟨T,oT,e1,hT⟩
 ·subst e1 e2;refine Qf ?_;simp only[if_true];refine Qb (XR ?_);refine Qb (Xr hz rfl (x:=.ref TO) rfl ?_);refine Qb (Xk hz (by simp) λh₁ hz1 hs₁=>?_)
  replace hz1:IsZ h₁ z TI TO .ellipsis false:=hz1
  refine Qb ?_;simp only[List.zipIdx_cons,List.zipIdx_nil,List.forIn_cons,List.forIn_nil];refine Qb (Qb (wpAny_onRaise ?_));show wpAny _ _ (Builtin.SmallTypes.nextOf (.ref i1) >>= _) _ _ _;refine Qb (wpAny_nextOf_list_end hh (h1.extBut hs₁.extBut D.i1z) (hl.extBut hs₁.extBut D.lz) hv λh₂ e hs₂ he=>?_);obtain⟨oe,hoe,hce⟩:=he;have hz₂:IsZ h₂ z TI TO .ellipsis false:=hs₂ _ _ D.i1z.symm hz1;have hez:e≠z:=λx=>by subst x;rw[hz₂]at hoe;cases hoe;simp at hce
  refine Xk hz₂ (by simp) λh₃ _ hs₃=>?_;exact fin h₃ e (λc o c1 c3 x=>hs₃.extBut _ _ c1 (hs₂ _ _ c3 (hs₁.extBut _ _ c1 x))) {oe,hs₃.extBut _ _ hez hoe,hce}
 subst e1;show wpAny _ _ (loadIfAlive ((T:Int).toNat) >>= _) _ _ _;rw[Xh];refine Qb (zO hT ?_);simp only[Option.isNone_some,QU,if_false];refine Qb (Xr hz rfl (x:=.bool f1) rfl ?_)
 cases f1 with
 | false =>
  simp only[show (Value.bool false != Value.bool true)=true from rfl,if_true];refine Qb (Xk hz (by simp) λh₁ hz1 hs₁=>Qf ?_)
  replace hz1:IsZ h₁ z TI TO (rawInt T) true:=hz1
  simp only[QU,if_false,List.forIn_toArray,List.forIn_cons,List.forIn_nil];refine Qb (Qb (Qb (Q2 ?_)));show wpAny _ _ (Builtin.SmallTypes.nextOf (.ref i1) >>= _) _ _ _;refine Qb (wpAny_nextOf_list_end hh (h1.extBut hs₁.extBut D.i1z) (hl.extBut hs₁.extBut D.lz) hv λh₂ e hs₂ he=>?_);exact fin h₂ e (λc o c1 c3 x=>hs₂ _ _ c3 (hs₁.extBut _ _ c1 x)) he
 | true =>
 simp only[show (Value.bool true != Value.bool true)=false from rfl,QU,if_false];refine Qf ?_;simp only[QU,if_false,List.forIn_toArray,List.forIn_cons,List.forIn_nil];refine Qb (Qb (Qb (Q2 ?_)));show wpAny _ _ (Builtin.SmallTypes.nextOf (.ref i1) >>= _) _ _ _;refine Qb (wpAny_nextOf_list_end hh h1 hl hv λh₂ e hs₂ he=>?_);exact fin h₂ e (λc o c1 c3 x=>hs₂ _ _ c3 x) he
abbrev zH1 (h:Heap) (l:Addr):Heap:=h.push { cls:=.type "list_iterator", data:=.fields #[.ref l,.int 0 0] }
abbrev zH2 (h:Heap) (l:Addr) (ty:String) (x:Str) (t:Tok):Heap:=(zH1 h l).push { cls:=.type ty,data:=.fields #[.str x t,.int 0 0] }
abbrev zH3 (h:Heap) (l:Addr) (ty:String) (x:Str) (t:Tok):Heap:=(zH2 h l ty x t).push { cls:=.type "tuple", data:=.seq #[.ref h.objs.size,.ref (zH1 h l).objs.size] }
abbrev zH4 (h:Heap) (l:Addr) (ty:String) (x:Str) (t:Tok):Heap:=(zH3 h l ty x t).push { cls:=.type "tuple", data:=.seq #[.none,.none] }
abbrev zH5 (h:Heap) (l:Addr) (ty:String) (x:Str) (t:Tok):Heap:=(zH4 h l ty x t).push { cls:=.type "zip", data:=.fields #[.none,.bool false,.bool false,.ref (zH2 h l ty x t).objs.size,.ref (zH3 h l ty x t).objs.size] }
def eX (x:Str):String:=if x.cps.all (·<128)=true then "str_ascii_iterator" else "str_iterator"
theorem uR {Q:F1} (hQ:Q (.ref s.heap.objs.size) { s with heap:=s.heap.push { cls:=.type (eX x),data:=.fields #[.str x t,.int 0 0] } }):wpAny (model prog w) A (pyIter (.str x t)) Q E s:=by
 unfold eX at hQ
 cases ha:x.cps.all (·<128) with
 | true=>rw[ha,QL rfl]at hQ;exact wpAny_pyIter_ascii ha hQ
 | false=>rw[ha,QI Qn]at hQ;exact wpAny_pyIter_wide ha hQ
theorem xw (x:Str):eX x = "str_ascii_iterator" \/ eX x = "str_iterator" := by
 unfold eX
 split
 ·exact .inl rfl
 exact .inr rfl
theorem uI (l:Addr) (xs:Array Value) (x:Str) (t:Tok) :
  Meets (Builtin.«zip.__new__» {[.type "zip", .ref l,.str x t],[]}) (λ_ R s=>s.heap.IsList l xs/\R (.ok (.ret (.ref (zH4 s.heap l (eX x) x t).objs.size))) { s with heap:=zH5 s.heap l (eX x) x t }) :=
 .of_wp λprog w A R s h=>by
  obtain⟨hp,g,d,tk,os⟩:=s;obtain⟨hl1,h⟩:=h;have hsub:=sub_zip;have hL1:Heap.IsList (Shared.heap ⟨hp,g,d,tk,os⟩) l xs:=hl1
  wp_walk using wpAny_pyIter_list hL1,uR
  exact⟨_,rfl,h⟩
theorem xg {Q:F1} (hl1:s.heap.IsList l xs)
  (h:∀h',IsZ h' (s.heap.objs.size+4) (s.heap.objs.size+2) (s.heap.objs.size+3) .none false->IsPair h' (s.heap.objs.size+2) (.ref s.heap.objs.size) (.ref (s.heap.objs.size+1)) ->
   IsPair h' (s.heap.objs.size+3) .none .none->h'.IsListIter s.heap.objs.size l 0->h'.IsStrIter (s.heap.objs.size+1) (eX x) x t 0->h'.objs.size=s.heap.objs.size+5 ->
   (∀c o,s.heap.get? c=some o->h'.get? c=some o)->Q (.ref (s.heap.objs.size+4)) { s with heap:=h' }) :
  wpAny (model prog w) A (call (.type "zip") [.ref l,.str x t]) Q E s:=by
 refine callType_new F.called_zip (by decide) (F.typeCall_zip_2 _ _) (F.newCall_zip_2 _ _) (λobj=>F.args_object_init_3 obj _ _) F.entry_zip_new (uI l xs x t) {hl1,?_};have z1:(zH1 s.heap l).objs.size=s.heap.objs.size+1:=Xd ..;have z2:(zH2 s.heap l (eX x) x t).objs.size=s.heap.objs.size+2:=by rw[Xd,z1]
 have z3:(zH3 s.heap l (eX x) x t).objs.size=s.heap.objs.size+3:=by rw[Xd,z2]
 have z4:(zH4 s.heap l (eX x) x t).objs.size=s.heap.objs.size+4:=by rw[Xd,z3]
 have z5:(zH5 s.heap l (eX x) x t).objs.size=s.heap.objs.size+5:=by rw[Xd,z4]
 have g5:(zH5 s.heap l (eX x) x t).get? (zH4 s.heap l (eX x) x t).objs.size=some _:=Qq _ rfl;have g4:(zH5 s.heap l (eX x) x t).get? (zH3 s.heap l (eX x) x t).objs.size=some _:=Qd _ (Qq _ rfl);have g3:(zH5 s.heap l (eX x) x t).get? (zH2 s.heap l (eX x) x t).objs.size=some _:=Qd _ (Qd _ (Qq _ rfl));have g2:(zH5 s.heap l (eX x) x t).get? (zH1 s.heap l).objs.size=some _:=Qd _ (Qd _ (Qd _ (Qq _ rfl)));have g1:(zH5 s.heap l (eX x) x t).get? s.heap.objs.size=some _:=Qd _ (Qd _ (Qd _ (Qd _ (Qq _ rfl))));show _/\_;rw[z2,z3,z4]at g5;rw[z1,z2]at g3;rw[z3]at g4;rw[z1]at g2;rw[z4]
 exact{⟨_,g5,rfl⟩,h _ g5 g3 g4 ⟨_,g1,rfl,rfl⟩ ⟨_,g2,rfl,rfl⟩ z5 λc o x =>
  Qd _ (Qd _ (Qd _ (Qd _ (Qd _ x))))}
theorem iE:typeLookup (.type "zip") "__getattr__" = pure none:=by rw[typeLookup_type,XN];kernel_rfl
theorem lJ:typeLookup (.type "zip") "keys" = pure none:=by rw[typeLookup_type,XN];kernel_rfl
theorem fA:entryFor table "zip.__getattribute__" = some Builtin.«object.__getattribute__» :=
 entryFor_alias (id' := "object.__getattribute__") (by kernel_rfl) (by decide +kernel) (by decide +kernel) (by kernel_rfl)
theorem kK (a:Addr) (xs:Array Value) (sl:Array (Option Value)) (u:Tok) :
  Meets (Builtin.«object.__getattribute__» {[.ref a,.str "keys" u],[]}) (λA R s=>s.heap.get? a=some { cls:=.type "zip", dict:=none,data:=.fields xs,slots:=sl }/\raisesAttr (.ref a) "keys" A R s) :=
 Meets.of_wp λprog w A R s hs=>by
  obtain⟨hp,g,d,tk,os⟩:=s;obtain⟨hx,hs⟩:=hs;have hT:(⟨hp,g,d,tk,os⟩:Shared).TypeIs (.ref a) "zip" := ⟨_,hx,rfl⟩;have hmiss:=lJ;have hname:(["__module__", "__name__", "__qualname__", "__doc__", "__annotations__"]:List Str).contains "keys" = false:=by decide +kernel
  unfold Builtin.«object.__getattribute__»
  repeat (any_goals (first|assumption|wp_step))
  try simp only[hname,QU,if_false]
  repeat (any_goals (first|assumption|wp_step))
  exact wpAny_raiseAttrError hs.1 hs.2 (attrMsg_fits (by decide +kernel) (by decide +kernel))
theorem uL {sl:Array (Option Value)} (hx:s.heap.get? a=some { cls:=.type "zip", dict:=none,data:=.fields xs,slots:=sl }) (hA:A.handled=none)
  (h:∀h' tk,(∀c o,s.heap.get? c=some o->h'.get? c=some o)->Q none { s with heap:=h',toks:=tk }):wpAny (model prog w) A (getAttr? (.ref a) "keys") Q E s:=by
 obtain⟨hp,g,d,tk,os⟩:=s;have hT:∀tk',(⟨hp,g,d,tk',os⟩:Shared).TypeIs (.ref a) "zip" := λ_=>⟨_,hx,rfl⟩;have f1:=sub_AttributeError;have f3:=F.slot_zip_getattribute.lookup;have f4:=F.slot_zip_getattribute.bind (.ref a);have f5:=iE;unfold getAttr? getAttrBy? getAttrBy
 repeat (any_goals (first|assumption|exact hT _|((with_reducible show wpAny _ _ (call (Value.builtin "zip.__getattribute__") _ _) _ _ _);refine call_meets F.slot_zip_getattribute (hT _) fA (F.args_zip_getattribute_2 _ _) (kK a xs sl _) {hx,hA,λh' tk' e hx'=>?_})|wp_step))
 obtain⟨t',u',he⟩:=hx'.there;show wpAny _ _ (getattributeRaised _ _ _ _ _ _ _) _ _ _;unfold getattributeRaised
 repeat (any_goals (first|assumption|wp_step))
 all_goals exact h _ _ hx'.keeps
end
theorem kG:mroOf (.type "dict")=pure [.type "dict", .type "object"]:=by rw[mroOf_type];kernel_rfl
theorem jo:typeLookup (.type "dict") "__new__" = pure (some (.builtin "dict.__new__")):=by rw[typeLookup_type,XN];kernel_rfl
theorem jf:TypeCalled "dict" "dict.__new__" "dict.__init__" :=
 {by decide +kernel,by decide +kernel,⟨_,_,kG⟩,madeBy_type kG jo (by decide +kernel),by decide +kernel,by rw[isSubtype_type];kernel_rfl,F.slot_dict_init}
theorem fG (a:Value):checkTypeCall "dict" {[a],[]}=pure ():=by kernel_rfl
theorem kB (a:Value):checkBuiltinCall "dict.__new__" {[.type "dict", a],[]}=pure ():=by kernel_rfl
theorem kU:entryFor table "dict.__new__" = some Builtin.«dict.__new__»:=entryFor_of_tree (by kernel_rfl)
theorem kg:plainId "dict.__new__" = true:=by decide +kernel
theorem vm:isSubtype (.type "dict") (.type "dict")=pure true:=by rw[isSubtype_type];kernel_rfl
theorem gx:entryFor table "dict.update.loop" = some Builtin.«dict.update.loop»:=entryFor_of_tree (by kernel_rfl)
theorem cT:plainId "dict.update.loop" = true:=by decide +kernel
structure ApartD (z TI TO i1 i2 l d:Addr):Prop extends Apart5 z TI TO i1 i2 l where
 dz:d≠z
 dTI:d≠TI
 dTO:d≠TO
 di1:d≠i1
 di2:d≠i2
 dl:d≠l
structure ZS (h:Heap) (z TI TO i1 i2 l d:Addr) (ty:String) (x:Str) (t:Tok) (xs:Array Value) (k:Nat):Prop where
 zf:(IsZ h z TI TO .none false/\∃a b,IsPair h TO a b)\/∃(T:Addr) (f1:Bool) (oT:Obj),IsZ h z TI TO (rawInt (T:Nat)) f1/\h.get? T=some oT/\T≠z/\T≠i1/\T≠i2/\T≠d
 ti:IsPair h TI (.ref i1) (.ref i2)
 a1:h.IsListIter i1 l k
 a2:h.IsStrIter i2 ty x t k
 li:h.IsList l xs
section
variable {prog:Program} {w:World} {K:Type} [DecidableEq K] {knd:KeyKind prog w K} {A:Around} {R:Result->Shared->Prop}
variable {Q:Option Value->Shared->Prop} {xs:Array Value} {t:Tok} {x:Str} {z i1 i2 l d:Addr} {ty:String} {s:Shared} {E:F1}
theorem xp (hty:ty = "str_ascii_iterator" \/ ty = "str_iterator") {TI TO:Addr} {k c:Nat} {v:Value} {od:Obj} (D:ApartD z TI TO i1 i2 l d)
  (Z:ZS s.heap z TI TO i1 i2 l d ty x t xs k) (hod:s.heap.get? d=some od) (hv:xs[k]?=some v) (hc:x.cps[k]?=some c)
  (hQ:∀h' T u,ZS h' z TI TO i1 i2 l d ty x t xs (k+1)->IsPair h' T v (.str {#[c]} u)->T≠d->(∀c o,c≠z->c≠TO->c≠i1->c≠i2->s.heap.get? c=some o->h'.get? c=some o)->Q (some (.ref T)) { s with heap:=h',toks:=s.toks+1 }) :
  wpAny (model prog w) A (pyNext (.ref z)) Q E s:=by
 have lt:∀{c o},s.heap.get? c=some o->s.heap.objs.size≠c:=λe=>XE (Ql e);have l1:s.heap.objs.size≠i1:=by obtain⟨_,e,_⟩:=Z.a1;exact lt e
 have l2:s.heap.objs.size≠i2:=by obtain⟨_,e,_⟩:=Z.a2;exact lt e
 rcases Z.zf with⟨hz,a,b,hTO⟩|⟨T,f1,oT,hz,hT,n1,n2,n3,n4⟩
 ·refine rC hty D.toApart5 hz Z.ti hTO Z.a1 Z.a2 Z.li hv hc λh' b1 b2 b3 b4 b5 b6 b7=>?_;exact hQ h' _ _ {.inr {_,_,_,b1,b5,lt hz,l1,l2,lt hod},b7 _ _ D.TIz D.TITO D.TIi1 D.TIi2 Z.ti,b3,b4,Z.li.at λo e=>b7 _ o D.lz D.lTO D.li1 D.li2 e} b5 (lt hod) b7
 refine rB hty D.toApart5 hz hT Z.ti Z.a1 Z.a2 Z.li hv hc λh' b1 b3 b4 b5 b6 b7=>?_;exact hQ h' _ _ {.inr {T,_,oT,b1,b7 _ _ n1 n2 n3 hT,n1,n2,n3,n4},b7 _ _ D.TIz D.TIi1 D.TIi2 Z.ti,b3,b4,Z.li.at λo e=>b7 _ o D.lz D.li1 D.li2 e} b5 (lt hod) λc o c1 _ c3 c4 e=>b7 c o c1 c3 c4 e
theorem zQ {TI TO:Addr} {k:Nat} (hh:A.handled=none) (D:ApartD z TI TO i1 i2 l d)
  (Z:ZS s.heap z TI TO i1 i2 l d ty x t xs k) (hv:xs[k]?=none) (hQ:∀h',(∀c o,c≠z->c≠i1->s.heap.get? c=some o->h'.get? c=some o)->Q none { s with heap:=h' }):wpAny (model prog w) A (pyNext (.ref z)) Q E s:=by
 rcases Z.zf with⟨hz,a,b,hTO⟩|⟨T,f1,oT,hz,hT,n1,n2,n3,n4⟩
 ·exact qk (a:=a) (b:=b) hh D.toApart5 hz (.inl ⟨rfl,rfl,a,b,hTO⟩) Z.ti Z.a1 Z.li hv hQ
 exact qk (a:=.none) (b:=.none) hh D.toApart5 hz (.inr ⟨T,oT,rfl,hT⟩) Z.ti Z.a1 Z.li hv hQ
theorem ZS.dict {h h':Heap} {TI TO:Addr} {k:Nat} (D:ApartD z TI TO i1 i2 l d) (Z:ZS h z TI TO i1 i2 l d ty x t xs k) (hs:Heap.SameBut d h h'):ZS h' z TI TO i1 i2 l d ty x t xs k:=by
 refine{?_,hs.extBut _ _ D.dTI.symm Z.ti,Z.a1.extBut hs.extBut D.di1.symm,Z.a2.extBut hs.extBut D.di2.symm,Z.li.extBut hs.extBut D.dl.symm};rcases Z.zf with⟨hz,a,b,hTO⟩|⟨T,f1,oT,hz,hT,n1,n2,n3,n4⟩
 ·exact .inl {hs.extBut _ _ D.dz.symm hz,a,b,hs.extBut _ _ D.dTO.symm hTO}
 exact .inr {T,f1,oT,hs.extBut _ _ D.dz.symm hz,hs.extBut _ _ n4 hT,n1,n2,n3,n4}
def d7 (kvs:List (K × Value)) (ps:List (K × Value)):List (K × Value):=ps.foldl (λacc p=>stored acc p.1 p.2) kvs
theorem jJ (kvs:List (K × Value)) (k:K) (v:Value):(stored kvs k v).length<=kvs.length+1:=by
 unfold stored
 split
 ·rw[Qa];exact BZ
 rw[Qk];simp
theorem u0 (hty:ty = "str_ascii_iterator" \/ ty = "str_iterator") {TI TO:Addr} (D:ApartD z TI TO i1 i2 l d) (hh:A.handled=none) (ks:Nat->K) (hk:∀k v,xs[k]?=some v->knd.is (ks k) v=true)
  (hlen:xs.size<=x.cps.size) (hsz:xs.size<=sizeLine):∀(m k:Nat) (i:Int) (s:Shared) (kvs:List (K × Value)),xs.size-k=m->k<=xs.size->ZS s.heap z TI TO i1 i2 l d ty x t xs k->s.heap.DictOf knd d kvs->kvs.length<=k ->
  (∀h' tk (ps:List (K × Value)),ps.length=xs.size-k->(∀(j:Nat) p,ps[j]?=some p->p.1=ks (k+j)/\∃c u,x.cps[k+j]?=some c/\p.2=.str {#[c]} u)->h'.DictOf knd d (d7 kvs ps) ->
   (∀c o,c≠z->c≠TO->c≠i1->c≠i2->c≠d->s.heap.get? c=some o->h'.get? c=some o)->R (.ok (.ret .none)) { s with heap:=h',toks:=tk }) ->
  codeAny (model prog w) A (.builtin "dict.update.loop" {[.ref d,.ref z,rawInt i,.none],[]}) R s:=by
 intro m
 induction m with
 | zero =>
  intro k i s kvs hm hkk Z hd hkl hR;have hin:k=xs.size:=by exact zj hm hkk
  refine Xs gx ?_;rw[Xg cT _];show wpAny _ A.in1 (pyNext (.ref z) >>= _) _ _ s;refine Qb (zQ (show A.in1.handled=none from hh) D Z (by rw[hin];simp) λh' hkeep=>?_);show wpAny _ _ (Builtin.Dict.addKeywords d [] >>= _) _ _ _;refine Qb (Qf (Qf ?_));have hdn:d≠z:=D.dz
  have hd':h'.DictOf knd d kvs:=by
   obtain⟨o,es,ep,e1,r⟩:=hd;exact{o,es,ep,hkeep d o D.dz D.di1 e1,r}
  exact hR h' s.toks [] (by simp;exact BY hm) (λj p e=>by simp at e) hd' λc o c1 _ c3 _ _ e=>hkeep c o c1 c3 e
 | succ m ih =>
 intro k i s kvs hm hkk Z hd hkl hR;have hlt:k<xs.size:=by exact zi hm hkk
 have hv:xs[k]?=some xs[k]:=by simp[hlt]
 have hltc:k<x.cps.size:=by exact zn hlen hlt
 have hc:x.cps[k]?=some x.cps[k]:=by simp[hltc]
 obtain⟨od,es0,ep0,hod,_⟩:=id hd;refine Xs gx ?_;rw[Xg cT _];show wpAny _ A.in1 (pyNext (.ref z) >>= _) _ _ s;refine Qb (xp hty D Z hod hv hc λh1 T u Z1 hT hTd hkeep=>?_)
 have hd1:h1.DictOf knd d kvs:=by
  obtain⟨o,es,ep,e1,r⟩:=hd;exact{o,es,ep,hkeep d o D.dz D.dTO D.di1 D.di2 e1,r}
 refine Qb (Q2 ?_);have hTy:(Shared.TypeIs { s with heap:=h1,toks:=s.toks+1 } (.ref T) "tuple"):=⟨_,hT,rfl⟩;refine Qb (wpAny_tryCatch ?_);unfold Builtin.Dict.pairItems;refine Qb (wpAny_typeOf hTy ?_);rw[QL (by decide)];refine Qb (wpAny_seqItems hT rfl (Qf ?_));show wpAny _ _ (holding [xs[k],_] (dictSet d xs[k] _)) _ _ _;refine Q2 (wpAny_dictSet_pairs (hk k _ hv) hd1 (λh2 hd2 hs2=>?_) (by exact zh hsz hkl hlt));refine Qf {plainId_quiet cT _,ih (k+1) (i+1) _ _ (by exact zg hm hlt) (by exact ze hlt) (ZS.dict D Z1 hs2) hd2 (QX (jJ _ _ _) (by exact uv hkl)) λh3 tk ps hl hp hd3 hk3=>?_};refine hR h3 tk ((ks k,.str {#[x.cps[k]]} u)::ps) (by rw[QS,hl];exact BW hm hlt) (λj p e=>?_) hd3 λc o c1 c2 c3 c4 c5 e=>hk3 c o c1 c2 c3 c4 c5 (hs2.extBut c o c5 (hkeep c o c1 c2 c3 c4 e))
 cases j with
 | zero =>
  have e':(ks k,Value.str {#[x.cps[k]]} u)=p:=by simpa using e
  subst e';exact{rfl,x.cps[k],u,hc,rfl}
 | succ j =>
 have q:=hp j p (by simpa using e);rw[show k+(j+1)=k+1+j by exact BV];exact q
theorem gI (a:Value) {Q:F1} (h:Q (.ref s.heap.objs.size) { s with heap:=s.heap.push { cls:=.type "dict", data:=.dict #[] } }) :
  codeAny (model prog w) A (.call (.builtin "dict.__new__") {[.type "dict", a],[]}) (wants Q E) s:=by
 refine codeAny_call_builtin kg kU (wpAny_of_eq (kB a) ?_);have hsub:=vm;have hmro:=kG;obtain⟨hp,g,d,tk,os⟩:=s;unfold Builtin.«dict.__new__»
 wp_walk
 exact h
theorem u8 (hty:ty = "str_ascii_iterator" \/ ty = "str_iterator") {TI TO:Addr} {Q:F1} (D:Apart5 z TI TO i1 i2 l) (hh:A.handled=none) (ks:Nat->K)
  (hk:∀k v,xs[k]?=some v->knd.is (ks k) v=true) (hlen:xs.size<=x.cps.size) (hsz:xs.size<=sizeLine) (hz:IsZ s.heap z TI TO .none false) (hTI:IsPair s.heap TI (.ref i1) (.ref i2)) (hTO:∃a b,IsPair s.heap TO a b)
  (h1:s.heap.IsListIter i1 l 0) (h2:s.heap.IsStrIter i2 ty x t 0) (hl:s.heap.IsList l xs)
  (h:∀h' tk (ps:List (K × Value)),ps.length=xs.size->(∀(j:Nat) p,ps[j]?=some p->p.1=ks j/\∃c u,x.cps[j]?=some c/\p.2=.str {#[c]} u)->h'.DictOf knd s.heap.objs.size (d7 [] ps) ->
   (∀c o,c≠z->c≠TO->c≠i1->c≠i2->s.heap.get? c=some o->h'.get? c=some o)->Q (.ref s.heap.objs.size) { s with heap:=h',toks:=tk }) :
  wpAny (model prog w) A (call (.type "dict") [.ref z]) Q E s:=by
 refine callType_codes (Q₁:=λobj s1=>obj=.ref s.heap.objs.size/\s1={ s with heap:=s.heap.push { cls:=.type "dict", data:=.dict #[] } }) jf (fG _) F.entry_dict_init (gI _ ⟨rfl,rfl⟩) ?_;rintro obj s1 ⟨rfl,rfl⟩;have up:∀c o,s.heap.get? c=some o->(s.heap.push { cls:=.type "dict", data:=.dict #[] }).get? c=some o:=λc o e=>Qd _ e;have hnew:(s.heap.push { cls:=.type "dict", data:=.dict #[] }).DictOf knd s.heap.objs.size []:=Heap.DictOf.new s.heap;have lt:∀{c o},s.heap.get? c=some o->s.heap.objs.size≠c:=λe=>XE (Ql e);have l1:s.heap.objs.size≠i1:=by obtain⟨_,e,_⟩:=h1;exact lt e
 have l2:s.heap.objs.size≠i2:=by obtain⟨_,e,_⟩:=h2;exact lt e
 have ll:s.heap.objs.size≠l:=by obtain⟨_,e,_⟩:=hl;exact lt e
 obtain⟨a0,b0,hTO'⟩:=hTO;have DD:ApartD z TI TO i1 i2 l s.heap.objs.size:={D,lt hz,lt hTI,lt hTO',l1,l2,ll};refine{hnew.typeIs,F.args_dict_init_2 _ _,?_};unfold Builtin.«dict.__init__»;refine Qb ?_;unfold Builtin.Dict.selfAndRest;refine Qb (wpAny_notOrdered_dict hnew.typeIs ?_);show wpAny _ _ (pure (s.heap.objs.size,[Value.ref z])) _ _ _;refine Qf ?_;show wpAny _ _ (Builtin.Dict.updateFrom "dict.__init__" s.heap.objs.size (.ref z) [] .none) _ _ _;unfold Builtin.Dict.updateFrom;have hzT:Shared.TypeIs { s with heap:=s.heap.push { cls:=.type "dict", data:=.dict #[] } } (.ref z) "zip" := {_,up _ _ hz,rfl};refine Qb (wpAny_typeOf hzT ?_);rw[QL (by decide)];refine Qb (uL (up _ _ hz) (show A.in1.in1.handled=none from hh) λh3 tk k3=>?_);simp only[Option.isNone_none,if_true];refine Qb (XR ?_);have hz3:IsZ h3 z TI TO .none false:=k3 _ _ (up _ _ hz);refine Qb (wpAny_pyIter_zip (z:=z) (TI:=TI) (TO:=TO) (f0:=.none) hz3 ?_);refine Qf {plainId_quiet cT _,?_};have Z3:ZS h3 z TI TO i1 i2 l s.heap.objs.size ty x t xs 0:={.inl {hz3,a0,b0,k3 _ _ (up _ _ hTO')},k3 _ _ (up _ _ hTI),h1.at λo e=>k3 _ o (up _ o e),(let ⟨o,e,r⟩:=h2;{o,k3 _ o (up _ o e),r}),hl.at λo e=>k3 _ o (up _ o e)}
 have hd3:h3.DictOf knd s.heap.objs.size []:=by
  obtain⟨o,es,ep,e1,r⟩:=hnew;exact{o,es,ep,k3 _ _ e1,r}
 refine u0 hty DD (show A.in1.handled=none from hh) ks hk hlen hsz xs.size 0 0 _ [] (by simp) (QG _) Z3 hd3 (Qh _) λh4 tk4 ps hp1 hp2 hd4 hk4=>?_;refine{rfl,h h4 tk4 ps (by simpa using hp1) (λj p e=>by simpa using hp2 j p e) hd4 λc o c1 c2 c3 c4 e=>hk4 c o c1 c2 c3 c4 (lt e).symm (k3 _ _ (up _ _ e))}
end
end LZ
namespace L2
open PySem PySem.Spec PyProof.Rows
def bH (kvs:List (Key × V)):List (Key × V)->List (Key × V)
 | []=>kvs
 | p::r=>bH (cr kvs p.1 p.2) r
def cZ (ns:List Str) (z:Str):List (Key × V):=(ns.zipIdx).map λp=>(Sum.inr p.1,fI z p.2)
theorem rQ:∀{qs:List (Key × V)} {ps:List (Key × Value)} {kvs:List (Key × V)} {vs:List (Key × Value)},KV qs ps->KV kvs vs->KV (bH kvs qs) (LZ.d7 vs ps)
 | [],_,_,_,h,r=>by cases h;exact r
 | q::qs,p::ps,kvs,vs,h,r=>by
  cases h with
  | cons h1 h2 =>
  show KV (bH (cr kvs q.1 q.2) qs) (LZ.d7 (stored vs p.1 p.2) ps);rw[<-h1.1];exact rQ h2 (r.put q.1 h1.2)
theorem paired_get {α β:Type} {F:α->β->Prop}:∀{xs:List α} {ys:List β},xs.length=ys.length->(∀(j:Nat) x y,xs[j]?=some x->ys[j]?=some y->F x y)->Paired F xs ys
 | [],[],_,_=>.nil
 | x::xs,y::ys,hl,h=>.cons (h 0 x y rfl rfl) (paired_get (by simpa using hl) λj a b e1 e2=>h (j+1) a b (by simpa using e1) (by simpa using e2))
theorem eU:∀(qs kvs:List (Key × V)),(bH kvs qs).length<=kvs.length+qs.length
 | [],kvs=>Qh _
 | q::qs,kvs=>by
  have h1:=eU qs (cr kvs q.1 q.2);have h2:=eP kvs q.1 q.2;show (bH (cr kvs q.1 q.2) qs).length<=_;rw[QS];exact Cb h1 h2
section
variable {X:Cx} {a b:Expr} {ta:TA} {p1 p2 pos1 pos2:Pos}
def Be (K:PySem.W.Frag) (ta:TA):TE:=λU H Q=>ta U H λvs H1=>∃l ns z,vs=[.ref l,.str z]/\SqL K H1 l (ns.map V.str)/\ns.length<=z.cps.size/\ns.length<1000/\∀d,H1 d=none->Q (.ref d) (upd H1 d (.dK (bH [] (cZ ns z))))
theorem sX (hc:X.calm=true) (hg:Gl X "dict") (hm:X.mg "dict" = none) (hg2:Gl X "zip") (hm2:X.mg "zip" = none) (ha:PA X [a,b] ta)
  (hs:starEach [a,b] X.env=[(false,eval a X.env),(false,eval b X.env)]:=by rfl) (hs2:starEach [b] X.env=[(false,eval b X.env)]:=by rfl)
  (hs0:starEach [.Call (.Name "zip" p2) [a,b] [] pos2] X.env=[(false,eval (.Call (.Name "zip" p2) [a,b] [] pos2) X.env)]:=by rfl) :
  PE X (.Call (.Name "dict" p1) [.Call (.Name "zip" p2) [a,b] [] pos2] [] pos1) (Be X.K ta):=by
 intro pins s U H Q I h;refine Call_ (dR I hg hm PyProof.Rows.boot_dict (Xe ?_ hs0 rfl));rw[hs0];show wpAny _ _ (spliced [(false,eval (.Call (.Name "zip" p2) [a,b] [] pos2) X.env)]) _ _ s;refine Calls.spliced_cons ?_;refine Call_ (dR I hg2 hm2 PyProof.Rows.boot_zip (Xe (thn (ha pos2 pins s U H _ I h) λus s1 ⟨vs,H1,I1,r1,q1⟩=>?_) (by rw[hs,hs2]) (by rw[hs2];rfl)));obtain⟨l,ns,z,e,hl,hlen,hsm,q⟩:=q1;subst e;obtain⟨u1,u2,e,ru1,ru2⟩:=sr r1;subst e;cases ru1;obtain⟨t,e⟩:=ru2;subst e;obtain⟨its,rv,pl,_⟩:=I1.list hl;have hits:its.length=ns.length:=by have:=rv.length;rw[Qa]at this;exact this.symm
 refine LZ.xg pl.isList λh2 b1 b2 b3 b4 b5 b6 b7=>?_;refine Calls.spliced_nil ?_;have I2:Inv X pins U H1 { s1 with heap:=h2 }:=I1.kept (t':=s1.toks) b7;have ltl:@LT.lt Nat _ l s1.heap.objs.size:=by obtain⟨o,ho,_⟩:=pl.isList;exact Ql ho
 have big:1000<sizeLine:=by decide
 refine LZ.u8 (knd:=bo X.prog X.w) (LZ.xw z) (i1:=s1.heap.objs.size) (i2:=s1.heap.objs.size+1) (l:=l) (xs:=its.toArray) {(by show @Ne Nat _ _;exact Ca),(by show @Ne Nat _ _;exact B_),(by show @Ne Nat _ _;exact B9),(by show @Ne Nat _ _;exact B8),(by show @Ne Nat _ _;exact B7),(by show @Ne Nat _ _;exact B6),(by show @Ne Nat _ _;exact B5),(by show @Ne Nat _ _;exact B4),(by show @Ne Nat _ _;exact B3),(by show @Ne Nat _ _;exact B2),(by show @Ne Nat _ _;omega),(by show @Ne Nat _ _;omega),(by show @Ne Nat _ _;omega),(by show @Ne Nat _ _;omega)} (I.ok.hd hc) (λk=>Sum.inr (ns.getD k Str.empty)) (λk v hv=>?_)
  (by rw[Qm,hits];exact hlen) (by rw[Qm,hits];omega) b1 b2 ⟨_,_,b3⟩ b4 b5 (pl.isList.at λo e=>b7 _ o e) λh3 tk ps hp1 hp2 hd3 hk3=>?_
 ·have hv':its[k]?=some v:=by simpa using hv
  have hk:k<ns.length:=by have:=(Qe.mp hv').1;exact Ay hits this
  have e1:(ns.map V.str)[k]?=some (.str (ns.getD k Str.empty)):=by
   rw[Qi,Qc hk,QQ,Qc hk];rfl
  obtain⟨u,hu,ru⟩:=rv.get e1;rw[hv']at hu;cases hu;obtain⟨t',e⟩:=ru;subst e;exact fW _ _ _ _
 have hlenz:(cZ ns z).length=ns.length:=by unfold cZ;simp
 have kv:KV (cZ ns z) ps:=by
  refine paired_get (by rw[hlenz,hp1,Qm,hits]) λj x y e1 e2=>?_;obtain⟨f1,c,u,f2,f3⟩:=hp2 j y e2;unfold cZ at e1;rw[Qi,List.getElem?_zipIdx]at e1
  cases e:ns[j]? with
  | none=>rw[e]at e1;simp at e1
  | some n =>
  rw[e]at e1;simp at e1;subst e1;refine{?_,?_}
  ·rw[f1];show (Sum.inr n:Key)=Sum.inr (ns.getD j Str.empty);rw[QQ,e];rfl
  rw[f3];refine{u,?_};show Value.str {#[c]} u=Value.str {#[z.cps.getD j 0]} u;rw[Array.getD_eq_getD_getElem?,f2];rfl
 have hnew:H1 h2.objs.size=none:=I2.hok.fresh (Qh _)
 have kept:∀c o,s1.heap.get? c=some o->h3.get? c=some o:=λc o e=>by
  have:@LT.lt Nat _ c s1.heap.objs.size:=Ql e;exact hk3 c o (by show @Ne Nat _ _;omega) (by show @Ne Nat _ _;omega) (by show @Ne Nat _ _;omega) (by show @Ne Nat _ _;omega) (b7 c o e)
 have hle:s1.heap.objs.size<=h2.objs.size:=by exact B1 b6
 have I3:Inv X pins U (upd H1 h2.objs.size (.dK (bH [] (cZ ns z)))) { s1 with heap:=h3,toks:=tk }:=I1.laid kept hle {by
   have:=eU (cZ ns z) [];rw[hlenz]at this;simp only[List.length_nil]at this
   omega,beq_eq_false_iff_ne.mpr (by
   have:@LT.lt Nat _ sysModules s1.heap.objs.size:=I1.big;intro e;have e':@Eq Nat h2.objs.size sysModules:=e
   omega),_,rQ kv .nil,hd3}
 exact{.ref h2.objs.size,_,I3,rfl,q _ hnew}
end
end L2
namespace LZ
open PySem
section
variable {prog:Program} {w:World} {A:Around} {E:F1} {s:Shared}
theorem iq:typeLookup (.type "list") "__getattr__" = pure none:=by rw[typeLookup_type,XN];kernel_rfl
theorem kN:typeLookup (.type "list") "keys" = pure none:=by rw[typeLookup_type,XN];kernel_rfl
theorem fj:entryFor table "list.__getattribute__" = some Builtin.«object.__getattribute__» :=
 entryFor_alias (id' := "object.__getattribute__") (by kernel_rfl) (by decide +kernel) (by decide +kernel) (by kernel_rfl)
theorem jm (a:Addr) (xs:Array Value) (m:Nat) (sl:Array (Option Value)) (u:Tok) :
  Meets (Builtin.«object.__getattribute__» {[.ref a,.str "keys" u],[]}) (λA R s=>s.heap.get? a=some { cls:=.type "list", dict:=none,data:=.seq xs m,slots:=sl }/\raisesAttr (.ref a) "keys" A R s) :=
 Meets.of_wp λprog w A R s hs=>by
  obtain⟨hp,g,d,tk,os⟩:=s;obtain⟨hx,hs⟩:=hs;have hT:(⟨hp,g,d,tk,os⟩:Shared).TypeIs (.ref a) "list" := ⟨_,hx,rfl⟩;have hmiss:=kN;have hname:(["__module__", "__name__", "__qualname__", "__doc__", "__annotations__"]:List Str).contains "keys" = false:=by decide +kernel
  unfold Builtin.«object.__getattribute__»
  repeat (any_goals (first|assumption|wp_step))
  try simp only[hname,QU,if_false]
  repeat (any_goals (first|assumption|wp_step))
  exact wpAny_raiseAttrError hs.1 hs.2 (attrMsg_fits (by decide +kernel) (by decide +kernel))
theorem rR {a:Addr} {xs:Array Value} {m:Nat} {sl:Array (Option Value)} {Q:Option Value->Shared->Prop} (hx:s.heap.get? a=some { cls:=.type "list", dict:=none,data:=.seq xs m,slots:=sl }) (hA:A.handled=none)
  (h:∀h' tk,(∀c o,s.heap.get? c=some o->h'.get? c=some o)->Q none { s with heap:=h',toks:=tk }):wpAny (model prog w) A (getAttr? (.ref a) "keys") Q E s:=by
 obtain⟨hp,g,d,tk,os⟩:=s;have hT:∀tk',(⟨hp,g,d,tk',os⟩:Shared).TypeIs (.ref a) "list" := λ_=>⟨_,hx,rfl⟩;have f1:=sub_AttributeError;have f3:=F.slot_list_getattribute.lookup;have f4:=F.slot_list_getattribute.bind (.ref a);have f5:=iq;unfold getAttr? getAttrBy? getAttrBy
 repeat (any_goals (first|assumption|exact hT _|((with_reducible show wpAny _ _ (call (Value.builtin "list.__getattribute__") _ _) _ _ _);refine call_meets F.slot_list_getattribute (hT _) fj (F.args_list_getattribute_2 _ _) (jm a xs m sl _) {hx,hA,λh' tk' e hx'=>?_})|wp_step))
 obtain⟨t',u',he⟩:=hx'.there;show wpAny _ _ (getattributeRaised _ _ _ _ _ _ _) _ _ _;unfold getattributeRaised
 repeat (any_goals (first|assumption|wp_step))
 all_goals exact h _ _ hx'.keeps
end
section
variable {prog:Program} {w:World} {K:Type} [DecidableEq K] {knd:KeyKind prog w K} {A:Around} {R:Result->Shared->Prop}
def jF (h:Heap) (xs:Array Value) (ka va:Nat->Value) (it d:Addr):Prop:=∀k,k<xs.size->∃(T:Addr) (o:Obj) (n:Nat),xs[k]?=some (.ref T)/\h.get? T=some o/\o.cls=.type "tuple" /\ o.data=.seq #[ka k,va k] n/\T≠it/\T≠d
theorem jF.keep {h h':Heap} {xs:Array Value} {ka va:Nat->Value} {it d:Addr} (p:jF h xs ka va it d) (hk:∀c o,c≠it->c≠d->h.get? c=some o->h'.get? c=some o):jF h' xs ka va it d:=λk hlt =>
 let ⟨T,o,n,e1,e2,e3,e4,e5,e6⟩:=p k hlt;{T,o,n,e1,hk T o e5 e6 e2,e3,e4,e5,e6}
theorem r9 {it l d:Addr} {xs:Array Value} {ka va:Nat->Value} (nid:d≠it) (nil:l≠it) (ndl:l≠d) (hh:A.handled=none) (ks:Nat->K) (hk:∀k,k<xs.size->knd.is (ks k) (ka k)=true) (hsz:xs.size<=sizeLine) :
  ∀(m k:Nat) (i:Int) (s:Shared) (kvs:List (K × Value)),xs.size-k=m->k<=xs.size->s.heap.IsListIter it l k->s.heap.IsList l xs->jF s.heap xs ka va it d->s.heap.DictOf knd d kvs->kvs.length<=k ->
  (∀h' tk,h'.DictOf knd d (d7 kvs ((List.range (xs.size-k)).map λj=>(ks (k+j),va (k+j))))->(∀c o,c≠it->c≠d->s.heap.get? c=some o->h'.get? c=some o)->R (.ok (.ret .none)) { s with heap:=h',toks:=tk }) ->
  codeAny (model prog w) A (.builtin "dict.update.loop" {[.ref d,.ref it,rawInt i,.none],[]}) R s:=by
 intro m
 induction m with
 | zero =>
  intro k i s kvs hm hkk hit hl hp hd hkl hR;have hin:k=xs.size:=by exact zj hm hkk
  refine Xs gx ?_;rw[Xg cT _];show wpAny _ A.in1 (pyNext (.ref it) >>= _) _ _ s;refine Qb (wpAny_pyNext_list_end (show A.in1.handled=none from hh) hit hl (by rw[hin];simp) λh' hkeep=>?_);show wpAny _ _ (Builtin.Dict.addKeywords d [] >>= _) _ _ _;refine Qb (Qf (Qf ?_))
  have hd':h'.DictOf knd d kvs:=by
   obtain⟨o,es,ep,e1,r⟩:=hd;exact{o,es,ep,hkeep d o nid e1,r}
  refine hR h' s.toks ?_ λc o c1 _ e=>hkeep c o c1 e;rw[hm];exact hd'
 | succ m ih =>
 intro k i s kvs hm hkk hit hl hp hd hkl hR;have hlt:k<xs.size:=by exact zi hm hkk
 obtain⟨T,oT,n,hx,hT,hTc,hTd,nTi,nTd⟩:=hp k hlt;refine Xs gx ?_;rw[Xg cT _];show wpAny _ A.in1 (pyNext (.ref it) >>= _) _ _ s;refine Qb (wpAny_pyNext_list_item hit hl hx λh1 hit1 hs1=>?_);have k1:∀c o,c≠it->s.heap.get? c=some o->h1.get? c=some o:=λc o n1 e=>hs1.extBut c o n1 e
 have hd1:h1.DictOf knd d kvs:=by
  obtain⟨o,es,ep,e1,r⟩:=hd;exact{o,es,ep,k1 d o nid e1,r}
 have hT1:=k1 T oT nTi hT;refine Qb (Q2 ?_);have hTy:(Shared.TypeIs { s with heap:=h1 } (.ref T) "tuple"):=⟨_,hT1,hTc⟩;refine Qb (wpAny_tryCatch ?_);unfold Builtin.Dict.pairItems;refine Qb (wpAny_typeOf hTy ?_);rw[QL (by decide)];refine Qb (wpAny_seqItems hT1 hTd (Qf ?_));show wpAny _ _ (holding [ka k,va k] (dictSet d (ka k) (va k))) _ _ _;refine Q2 (wpAny_dictSet_pairs (hk k hlt) hd1 (λh2 hd2 hs2=>?_) (by exact zh hsz hkl hlt));have k2:∀c o,c≠it->c≠d->s.heap.get? c=some o->h2.get? c=some o:=λc o n1 n2 e=>hs2.extBut c o n2 (k1 c o n1 e);refine Qf {plainId_quiet cT _,ih (k+1) (i+1) _ _ (by exact zg hm hlt) (by exact ze hlt) (hit1.extBut hs2.extBut (XH nid)) (hl.at λo e=>k2 l o nil ndl e) (hp.keep k2) hd2 (QX (jJ _ _ _) (by exact uv hkl)) λh3 tk hd3 hk3=>?_};refine hR h3 tk ?_ λc o c1 c2 e=>hk3 c o c1 c2 (k2 c o c1 c2 e);rw[show xs.size-k=(xs.size-(k+1))+1 from by exact BU hm hlt,List.range_succ_eq_map,QM,QT];have e:(List.range (xs.size-(k+1))).map (λj=>(ks (k+1+j),va (k+1+j)))=(List.range (xs.size-(k+1))).map ((λj=>(ks (k+j),va (k+j)))∘Nat.succ):=List.map_congr_left λj _=>by simp[Function.comp,Nat.add_assoc,Nat.add_comm 1]
 rw[e]at hd3;exact hd3
variable {Q E:F1}
theorem sn {s:Shared} {l:Addr} {xs:Array Value} {ka va:Nat->Value} (hh:A.handled=none) (ks:Nat->K) (hk:∀k,k<xs.size->knd.is (ks k) (ka k)=true) (hsz:xs.size<=sizeLine) (hl:PlainL s.heap l xs)
  (hp:∀k,k<xs.size->∃(T:Addr) (o:Obj) (n:Nat),xs[k]?=some (.ref T)/\s.heap.get? T=some o/\o.cls=.type "tuple" /\ o.data=.seq #[ka k,va k] n)
  (h:∀h' tk,h'.DictOf knd s.heap.objs.size (d7 [] ((List.range xs.size).map λj=>(ks j,va j)))->(∀c o,s.heap.get? c=some o->h'.get? c=some o)->Q (.ref s.heap.objs.size) { s with heap:=h',toks:=tk }) :
  wpAny (model prog w) A (call (.type "dict") [.ref l]) Q E s:=by
 refine callType_codes (Q₁:=λobj s1=>obj=.ref s.heap.objs.size/\s1={ s with heap:=s.heap.push { cls:=.type "dict", data:=.dict #[] } }) jf (fG _) F.entry_dict_init (gI _ ⟨rfl,rfl⟩) ?_;rintro obj s1 ⟨rfl,rfl⟩;have up:∀c o,s.heap.get? c=some o->(s.heap.push { cls:=.type "dict", data:=.dict #[] }).get? c=some o:=λc o e=>Qd _ e;have hnew:(s.heap.push { cls:=.type "dict", data:=.dict #[] }).DictOf knd s.heap.objs.size []:=Heap.DictOf.new s.heap;have lt:∀{c o},s.heap.get? c=some o->s.heap.objs.size≠c:=λe=>XE (Ql e);obtain⟨⟨c0,d0,dt0,sl0⟩,n0,ho,hoc,hod,hos⟩:=hl;have hoc:c0=.type "list" := hoc;have hod:d0=none:=hod;have hos:dt0=.seq xs n0:=hos;subst hoc hod hos;refine{hnew.typeIs,F.args_dict_init_2 _ _,?_};unfold Builtin.«dict.__init__»;refine Qb ?_;unfold Builtin.Dict.selfAndRest;refine Qb (wpAny_notOrdered_dict hnew.typeIs ?_);show wpAny _ _ (pure (s.heap.objs.size,[Value.ref l])) _ _ _;refine Qf ?_;show wpAny _ _ (Builtin.Dict.updateFrom "dict.__init__" s.heap.objs.size (.ref l) [] .none) _ _ _;unfold Builtin.Dict.updateFrom;have hzT:Shared.TypeIs { s with heap:=s.heap.push { cls:=.type "dict", data:=.dict #[] } } (.ref l) "list" := {_,up _ _ ho,rfl};refine Qb (wpAny_typeOf hzT ?_);rw[QL (by decide)];refine Qb (rR (up _ _ ho) (show A.in1.in1.handled=none from hh) λh3 tk k3=>?_);simp only[Option.isNone_none,if_true];refine Qb (XR ?_);have hL3:h3.IsList l xs:={_,k3 _ _ (up _ _ ho),rfl,n0,rfl}
 have hd3:h3.DictOf knd s.heap.objs.size []:=by
  obtain⟨o,es,ep,e1,r⟩:=hnew;exact{o,es,ep,k3 _ _ e1,r}
 obtain⟨od,es,ep,hd3',r3⟩:=id hd3;refine Qb (wpAny_pyIter_list hL3 ?_);refine Qf {plainId_quiet cT _,?_};have up4:∀c o,h3.get? c=some o->(h3.push { cls:=.type "list_iterator", data:=.fields #[.ref l,.int 0 0] }).get? c=some o:=λc o e=>Qd _ e;have lt3:∀{c o},h3.get? c=some o->c≠h3.objs.size:=λe=>Qz (Ql e);refine r9 (it:=h3.objs.size) (l:=l) (d:=s.heap.objs.size) (ka:=ka) (va:=va) (lt3 hd3') (lt3 (k3 _ _ (up _ _ ho))) (lt ho).symm (show A.in1.handled=none from hh) ks hk hsz xs.size 0 0 _ [] (by simp) (QG _) {_,Qq _ rfl,rfl,rfl} (hL3.at λo e=>up4 _ o e) (λk hlt=>?_) {od,es,ep,up4 _ _ hd3',r3} (Qh _) λh5 tk5 hd5 hk5=>?_
 ·obtain⟨T,o,n,e1,e2,e3,e4⟩:=hp k hlt;exact{T,o,n,e1,up4 _ _ (k3 _ _ (up _ _ e2)),e3,e4,lt3 (k3 _ _ (up _ _ e2)),(lt e2).symm}
 refine{rfl,h h5 tk5 (by simpa using hd5) λc o e=>hk5 c o (lt3 (k3 _ _ (up _ _ e))) (lt e).symm (up4 _ _ (k3 _ _ (up _ _ e)))}
end
end LZ
namespace L2
open PySem PySem.Spec PyProof.Rows
def qL (H:Hp) (v:V) (p:Str × V):Prop:=∃b,v=.ref b/\H b=some (.tup [.str p.1,p.2])
def cO (ps:List (Str × V)):List (Key × V):=ps.map λp=>((Sum.inr p.1:Key),p.2)
section
variable {X:Cx} {a:Expr} {ta:TA} {p1 pos1:Pos}
def np (K:PySem.W.Frag) (ta:TA):TE:=λU H Q=>ta U H λvs H1=>∃l xs ps,vs=[.ref l]/\SqL K H1 l xs/\xs.length<10000/\Paired (qL H1) xs ps/\∀d,H1 d=none->Q (.ref d) (upd H1 d (.dK (bH [] (cO ps))))
theorem yX {H:Hp}:∀{xs:List V} {ps:List (Str × V)},Paired (qL H) xs ps->∀(j:Nat) x,xs[j]?=some x->∃y,ps[j]?=some y/\qL H x y
 | _,_,.nil=>λj x e=>by simp at e
 | _,_,.cons (a:=a) (b:=b) h t=>λj x e=>by
  cases j with
  | zero=>simp at e;subst e;exact⟨_,rfl,h⟩
  | succ j=>simp at e;obtain⟨y,e',f⟩:=yX t j x e;exact{y,by simpa using e',f}
theorem vO {H:Hp}:∀{xs:List V} {ps:List (Str × V)},Paired (qL H) xs ps->xs.length=ps.length
 | _,_,.nil=>rfl
 | _,_,.cons h t=>by simp[vO t]
theorem dA (hc:X.calm=true) (hg:Gl X "dict") (hm:X.mg "dict" = none) (ha:PA X [a] ta) (hs:starEach [a] X.env=[(false,eval a X.env)]:=by rfl):PE X (.Call (.Name "dict" p1) [a] [] pos1) (np X.K ta):=by
 intro pins s U H Q I h;refine Call_ (dR I hg hm PyProof.Rows.boot_dict (Xe (thn (ha pos1 pins s U H _ I h) λus s1 ⟨vs,H1,I1,r1,q1⟩=>?_) hs rfl));obtain⟨l,xs,ps,e,hl,hsm,hpr,q⟩:=q1;subst e;obtain⟨u1,e,ru1⟩:=d_ r1;subst e;cases ru1;obtain⟨its,rv,pl,_⟩:=I1.list hl;have hits:its.length=xs.length:=rv.length.symm;have hps:=vO hpr;have big:10000<sizeLine:=by decide
 have each:∀k,∃g:Value × Value × Str,k<its.length->∃(T:Addr) (o:Obj) (m:Nat) (v:V) (t:Tok),its[k]?=some (.ref T)/\s1.heap.get? T=some o/\o.cls=.type "tuple" /\ o.data=.seq #[g.1,g.2.1] m/\g.1=.str g.2.2 t/\ps[k]?=some (g.2.2,v)/\aZ v g.2.1:=λk=>by
  by_cases hk:k<its.length
  ·have hx:xs[k]?=some (xs[k]'(by exact om3 hits hps hk)):=by simp
   obtain⟨y,hy,b,eb,hb⟩:=yX hpr k _ hx;obtain⟨u,hu,ru⟩:=rv.get hx;rw[eb]at ru;cases ru;obtain⟨its2,rv2,⟨o,e1,e2,n,e3⟩,_⟩:=I1.tuple (SqT.of hb);obtain⟨w1,w2,e4,r1,r2⟩:=sr rv2;subst e4;obtain⟨t,et⟩:=r1;subst et;exact{(.str y.1 t,w2,y.1),λ_=>⟨b,o,n,y.2,t,hu,e1,e2,e3,rfl,hy,r2⟩}
  exact{(.none,.none,Str.empty),λh=>absurd h hk}
 let g:=λk=>Classical.choose (each k);have hg':∀k,k<its.length->∃(T:Addr) (o:Obj) (m:Nat) (v:V) (t:Tok),its[k]?=some (.ref T)/\s1.heap.get? T=some o/\o.cls=.type "tuple" /\ o.data=.seq #[(g k).1,(g k).2.1] m/\(g k).1=.str (g k).2.2 t/\ps[k]?=some ((g k).2.2,v)/\aZ v (g k).2.1:=λk=>Classical.choose_spec (each k);refine LZ.sn (knd:=bo X.prog X.w) (l:=l) (xs:=its.toArray) (ka:=λk=>(g k).1) (va:=λk=>(g k).2.1) (I1.ok.hd hc) (λk=>(Sum.inr (g k).2.2:Key)) (λk hk=>?_) (by rw[Qm,hits];omega) pl (λk hk=>?_) λh3 tk hd3 kept=>?_
 ·rw[Qm]at hk;obtain⟨T,o,m,v,t,_,_,_,_,e5,_⟩:=hg' k hk;show (bo X.prog X.w).is _ (g k).1=true;rw[e5];exact fW _ _ _ _
 ·rw[Qm]at hk;obtain⟨T,o,m,v,t,e1,e2,e3,e4,_⟩:=hg' k hk;exact{T,o,m,by simpa using e1,e2,e3,e4}
 rw[Qm]at hd3
 have kv:KV (cO ps) ((List.range its.length).map λj=>((Sum.inr (g j).2.2:Key),(g j).2.1)):=by
  unfold cO;refine paired_get (by simp[hits,hps]) λj x y e1 e2=>?_;rw[Qi]at e1 e2
  have hj:j<its.length:=by
   cases e:(List.range its.length)[j]? with
   | none=>rw[e]at e2;cases e2
   | some q=>have:=(Qe.mp e).1;simpa using this
  obtain⟨T,o,m,v,t,_,_,_,_,_,e6,e7⟩:=hg' j hj;rw[e6]at e1;rw[List.getElem?_range hj]at e2;cases e1;cases e2;exact⟨rfl,e7⟩
 have hnew:H1 s1.heap.objs.size=none:=I1.hok.fresh (Qh _)
 have I3:Inv X pins U (upd H1 s1.heap.objs.size (.dK (bH [] (cO ps)))) { s1 with heap:=h3,toks:=tk }:=I1.laid kept (Qh _) {by
   have:=eU (cO ps) [];have e:(cO ps).length=ps.length:=by unfold cO;simp
   simp only[List.length_nil]at this
   omega,beq_eq_false_iff_ne.mpr (by
   have:@LT.lt Nat _ sysModules s1.heap.objs.size:=I1.big;intro e;have e':@Eq Nat s1.heap.objs.size sysModules:=e
   omega),_,rQ kv .nil,hd3}
 exact{.ref s1.heap.objs.size,_,I3,rfl,q _ hnew}
end
section
variable {X:Cx} {o e:Expr} {apos cpos:Pos} {ty:TE} {T:Addr}
end
section
variable {K:PySem.W.Frag} {g:TG} {te:TE} {σ0:St} {QD:Hp->Prop} {H1:Hp} {D:Addr}
end
section
variable {X:Cx}
def A6 (K:PySem.W.Frag) (te:TE):TE:=λU H Q=>te U H λx H1=>∃a xs,x=.ref a/\SqL K H1 a xs/\∀p,H1 p=none->Q (.ref p) (upd H1 p (.lst xs.reverse))
theorem Af {e st:Expr} {te ts:TE} {p2 pos:Pos} (he:PE X e te) (hst:PE X st ts) (h1:∀U H (Q:VK),Q (.int (-1)) H->ts U H Q):PE X (.Subscript e (.Slice none none (some st) p2) pos) (A6 X.K te):=by
 intro pins s U H Q I h;refine Subscript_ (thn (he pins s U H _ I h) λv s1 ⟨x,H1,I1,r1,q1⟩=>?_);refine wpAny_Slice ?_;rw[evalPart_none];refine Qf ?_;refine Qf ?_;rw[evalPart_some];refine thn (hst pins s1 U H1 (λy H2=>y=.int (-1)/\H2=H1) I1 (h1 _ _ _ ⟨rfl,rfl⟩)) λvk s3 ⟨y,H3,I3,r3,e1,e2⟩=>?_;subst e1 e2;obtain⟨t,rfl⟩:=r3;obtain⟨a,xs,rfl,hx,q⟩:=q1;cases r1;have I4:Inv X pins U H3 { s3 with heap:=s3.heap.push { cls:=.type "slice", data:=.fields #[.none,.none,.int (-1) t] } }:=I3.kept (t':=s3.toks) λb ob q=>Qd _ q;obtain⟨its,r,ht,hz⟩:=I4.list hx;have hlen:=r.length;refine tail_any (ops:=[.ref a,.ref s3.heap.objs.size]) ht.isList.typeIs slot_list_getitem.lookup ?_ (by with_unfolding_all rfl);refine wpAny_getItem_list_slice ht.isList (Heap.IsSliceOf.new ..) .none .none (.int _ _) (by decide) ?_ (by rw[Qm] <;> exact om4 hz hlen);rw[PySem.W.krv_pick];refine{.ref (s3.heap.push { cls:=.type "slice", data:=.fields #[.none,.none,.int (-1) t] }).objs.size,_,I4.laid (t':=s3.toks) (o:=.lst xs.reverse) (λb ob q=>Qd _ q) (Qh _) ?_,rfl,q _ (I4.hok.fresh (Qh _))};exact{by rw[List.length_reverse];exact hz,_,0,r.reverse,Qq _ rfl}
end
section
variable {K:PySem.W.Frag} {g:TG} {te:TE} {tt:TT} {σ0:St} {QD:Hp->Prop} {H1:Hp} {D:Addr}
end
def yW (f:Addr) (l:Lm) (y:Str) (cell c:Addr) (t:TE):V->Hp->VK->Prop:=λvx H Q=>∃(o:Obj) (uy:Value) (vy:V),H f=some (iX f l [(y,cell)] c)/\H c=some (ji c l.qual)/\H cell=some (cR o)/\o.data=.cell (some uy)/\aZ vy uy /\
 t [some vx,some vy] (dU H cell) λv H'=>H' cell=none->Q v (upd H' cell (cR o))
theorem si {P:Program} {w:World} {K:PySem.W.Frag} {mg:F3} {base:Heap} {x y:Str} {l:Lm} {f c cell:Addr} {k:Nat} {t:TE} (S:LmScope x y l.scope)
  (hb:∀(pm ctv u:Value),bindArgs (PySem.W.kla_fn "<lambda>" l.qual l.params l.body l.scope [(y,cell)] pm (.ref c) ctv) {[u],[]}=pure [(x,u)])
  (body:∀(A:Around) (outer:List Env) (s:Shared) (H:Hp),Room k (A.deeper (PySem.W.envX l.qual l.scope s.heap.objs.size f (.ref c) [(y,cell)]))->PE (tO P w K mg base x y l f c cell A outer s H E0) l.body t) :
  Calls P w K mg base (k+1) f (yW f l y cell c t):=by
 intro X e1 e2 e3 e4 e5 hx hr pins s U H vx u Q I rx h;subst e1 e2 e3 e4 e5;obtain⟨o,uy,vy,hf,hc,hcell,hd,ry,q⟩:=h;obtain⟨pm,ctv,ef⟩:=(I.hok f _ hf).1;have ec:s.heap.CodeRec (.ref c) l.qual:=(I.hok c _ hc).1;have eo:s.heap.get? cell=some o:=(I.hok cell _ hcell).1;have e0:=I.env0
 have nf:cell∉frs X.stack:=λz=>by
  have:=e0.frf cell z;rw[hcell]at this;cases this
 have e0':Env0 X.prog X.w X.K X.mg X.base X.A X.stack s (dU H cell):={e0.frames,e0.mod,λb ob e=>{(e0.bs b ob e).1,by
  by_cases z:b=cell
  ·rw[z];exact dD
  ·rw[bK z];exact(e0.bs b ob e).2},e0.bsz,e0.funs,λb hb=>by
  by_cases z:b=cell
  ·rw[z];exact dD
  rw[bK z];exact e0.frf b hb,e0.hok.drop hcell,e0.bare}
 refine wpAny_call (codeAny_mono (yi (E:=E0) S hr e0' rx ry ⟨o,eo,hd⟩ dD ef ec (hb pm ctv u) (body X.A X.stack s (dU H cell)) q) λr s' hq=>?_)
 cases r with
 | error e=>exact False.elim hq
 | ok fl =>
 cases fl with
 | ret u =>
  obtain⟨v,H',os,bare,un,hok,rv,qv⟩:=hq;obtain⟨un',n',e'⟩:=un.back hcell eo nf (by simp);exact I.after {v,_,os,bare,un',hok.take n' e',rv,qv n'}
 | next=>exact False.elim hq
 | brk=>exact False.elim hq
 | cont=>exact False.elim hq
end L2
namespace LR
open PySem
section
variable {prog:Program} {w:World} {A:Around} {E:F1} {s:Shared}
end
end LR
namespace L2
open PySem PySem.Spec PyProof.Rows
section
variable {X:Cx}
end
section
variable {X:Cx} {elts:List Expr} {k:Nat} {tpos:Pos}
end
section
variable {X:Cx}
end
section
variable {X:Cx} {elts:List Expr} {k:Nat} {tpos:Pos}
end
end L2
namespace Bf
section
variable {κ:Type} [DecidableEq κ]
def bi (w:List κ):List κ->List κ
 | []=>w
 | k::ks=>bi (if k∈w then w else w++[k]) ks
def bfs (nx:κ->List κ) (s:κ):Nat->List κ
 | 0=>[s]
 | n+1=>match (bfs nx s n)[n]? with
  | some h=>bi (bfs nx s n) (nx h)
  | none=>bfs nx s n
inductive Reach (nx:κ->List κ) (s:κ):κ->Prop
 | start:Reach nx s s
 | step {a b:κ}:Reach nx s a->b∈nx a->Reach nx s b
theorem dE:∀(ks w:List κ),w <+: bi w ks
 | [],w=>List.prefix_refl w
 | k::ks,w=>by
  unfold bi;refine List.IsPrefix.trans ?_ (dE ks _)
  split
  ·exact List.prefix_refl w
  exact List.prefix_append w [k]
theorem eJ:∀(ks w:List κ) (x:κ),x∈bi w ks↔x∈w\/x∈ks
 | [],w,x=>by simp[bi]
 | k::ks,w,x=>by
  unfold bi;rw[eJ ks]
  split
  ·rename_i h
   constructor
   ·rintro(q|q)
    ·exact .inl q
    exact .inr (Qx _ q)
   rintro(q|q)
   ·exact .inl q
   rcases QO.mp q with e|q
   ·subst e;exact .inl h
   exact .inr q
  rw[Qp,Qr,QO,or_assoc]
theorem d6:∀(ks w:List κ),w.Nodup->(bi w ks).Nodup
 | [],w,h=>h
 | k::ks,w,h=>by
  unfold bi;refine d6 ks _ ?_
  split
  ·exact h
  rename_i hk
  rw[Xz];refine{h,by simp,λa ha b hb=>?_};rw[Qr]at hb;subst hb;intro e;subst e;exact hk ha
theorem me (w ks ls:List κ):bi w (ks++ls)=bi (bi w ks) ls:=by
 induction ks generalizing w with
 | nil=>rfl
 | cons k ks ih=>exact ih _
variable {w xs ys:List κ}
theorem lF {k:κ} (h:k∈w):bi w [k]=w:=by simp[bi,h]
theorem lE {k:κ} (h:k∉w):bi w [k]=w++[k]:=by simp[bi,h]
variable {nx:κ->List κ} {s:κ}
variable {n i m:Nat}
theorem fo {h:κ} (e:(bfs nx s n)[n]?=some h):bfs nx s (n+1)=bi (bfs nx s n) (nx h):=by
 show (match (bfs nx s n)[n]? with|some h=>bi (bfs nx s n) (nx h)|none=>bfs nx s n)=_;rw[e]
theorem gc (e:(bfs nx s n)[n]?=none):bfs nx s (n+1)=bfs nx s n:=by
 show (match (bfs nx s n)[n]? with|some h=>bi (bfs nx s n) (nx h)|none=>bfs nx s n)=_;rw[e]
theorem lr (n:Nat):bfs nx s n <+: bfs nx s (n+1):=by
 cases e:(bfs nx s n)[n]? with
 | none=>rw[gc e];exact List.prefix_refl _
 | some h=>rw[fo e];exact dE _ _
theorem jE (n:Nat):∀m,bfs nx s n <+: bfs nx s (n+m)
 | 0=>List.prefix_refl _
 | m+1=>(jE n m).trans (lr (n+m))
theorem jx (h:xs <+: ys) {x:κ} (e:xs[i]?=some x):ys[i]?=some x:=by
 obtain⟨t,rfl⟩:=h;rw[QF (Qe.mp e).1];exact e
theorem ke (h:xs <+: ys) {x:κ} (hi:i<xs.length) (e:ys[i]?=some x):xs[i]?=some x:=by
 obtain⟨t,rfl⟩:=h;rw[QF hi]at e;exact e
theorem cB:∀n,(bfs nx s n).Nodup
 | 0=>by simp[bfs]
 | n+1=>by
  cases e:(bfs nx s n)[n]? with
  | none=>rw[gc e];exact cB n
  | some h=>rw[fo e];exact d6 _ _ (cB n)
theorem cX:∀n x,x∈bfs nx s n->Reach nx s x
 | 0,x,h=>by
  have:x=s:=by simpa[bfs] using h
  subst this;exact .start
 | n+1,x,hx=>by
  cases e:(bfs nx s n)[n]? with
  | none=>rw[gc e]at hx;exact cX n x hx
  | some h =>
  rw[fo e]at hx;rcases(eJ _ _ _).mp hx with q|q
  ·exact cX n x q
  exact .step (cX n h (Qg e)) q
theorem qI (n:Nat):(bfs nx s n)[0]?=some s:=jx (by have:=jE (nx:=nx) (s:=s) 0 n;rwa [Nat.zero_add]at this) rfl
theorem u9 (n:Nat):s∈bfs nx s n:=Qg (qI n)
theorem lA {n i:Nat} {h:κ} (hi:i<n) (e:(bfs nx s n)[i]?=some h):∀k∈nx h,k∈bfs nx s n:=by
 have h1:bfs nx s i <+: bfs nx s n:=by
  have:=jE (nx:=nx) (s:=s) i (n-i);rwa [Nat.add_sub_cancel' (Xy hi)]at this
 have h2:bfs nx s (i+1) <+: bfs nx s n:=by
  have:=jE (nx:=nx) (s:=s) (i+1) (n-(i+1));rwa [Nat.add_sub_cancel' hi]at this
 intro k hk
 cases q:(bfs nx s i)[i]? with
 | some h' =>
  have:some h'=some h:=(jx h1 q).symm.trans e;cases this;refine h2.subset ?_;rw[fo q];exact(eJ _ _ _).mpr (.inr hk)
 | none =>
 exfalso
 have stay:∀m,bfs nx s (i+m)=bfs nx s i:=by
  intro m
  induction m with
  | zero=>rfl
  | succ m ih =>
  have:(bfs nx s (i+m))[i+m]?=none:=by
   rw[ih];exact Xb (QX (List.getElem?_eq_none_iff.mp q) (Nat.le_add_right i m))
  exact(gc this).trans ih
 have:=stay (n-i);rw[Nat.add_sub_cancel' (Xy hi)]at this;rw[this,q]at e;cases e
theorem tR (hn:(bfs nx s n).length<=n) (x:κ):x∈bfs nx s n↔Reach nx s x:=by
 refine{cX n x,λr=>?_}
 induction r with
 | start=>exact u9 n
 | step r hb ih =>
 obtain⟨i,hi,e⟩:=Qo.mp ih;exact lA (i:=i) ⋯ (by rw[Qc hi,e]) _ hb
theorem hU:∀(ks w:List κ) (j:Nat) (x:κ),w.length<=j->(bi w ks)[j]?=some x->x∈ks
 | [],w,j,x,hj,e=>by
  have:w[j]?=some x:=e;rw[Xb hj]at this;cases this
 | k::ks,w,j,x,hj,e=>by
  unfold bi at e
  split at e
  ·exact Qx _ (hU ks w j x hj e)
  by_cases c:j=w.length
  ·subst c;have:=ke (dE ks (w++[k])) (i:=w.length) (by simp) e;rw[QH (Qh _)]at this;simp at this;exact this▸Xj
  exact Qx _ (hU ks (w++[k]) j x (by simp;omega) e)
theorem lp:∀(n j:Nat) (x:κ),0<j->(bfs nx s n)[j]?=some x->∃i h,i<j/\i<n/\(bfs nx s n)[i]?=some h/\x∈nx h
 | 0,j,x,hj,e=>by
  have:([s]:List κ)[j]?=some x:=e;rw[Xb (by simp;omega)]at this;cases this
 | n+1,j,x,hj,e=>by
  cases q:(bfs nx s n)[n]? with
  | none =>
   rw[gc q]at e ⊢;obtain⟨i,h,h1,h2,h3,h4⟩:=lp n j x hj e;exact{i,h,h1,⋯,h3,h4}
  | some h =>
  rw[fo q]at e ⊢;by_cases c:j<(bfs nx s n).length
  ·have e':=ke (dE (nx h) (bfs nx s n)) c e;obtain⟨i,h',h1,h2,h3,h4⟩:=lp n j x hj e';exact{i,h',h1,⋯,jx (dE _ _) h3,h4}
  have hn:n<(bfs nx s n).length:=(Qe.mp q).1;exact{n,h,⋯,⋯,jx (dE _ _) q,hU _ _ j x ⋯ e}
theorem yw (hn:(bfs nx s n).length=n) (hm:(bfs nx s m).length=m):n=m:=by
 have a:∀x,x∈bfs nx s n↔x∈bfs nx s m:=λx=>(tR (Nat.le_of_eq hn) x).trans (tR (Nat.le_of_eq hm) x).symm;have:=(List.perm_ext_iff_of_nodup (cB n) (cB m)).mpr a;have:=this.length_eq;omega
theorem pigeon:∀(xs ys:List κ),xs.Nodup->(∀x∈xs,x∈ys)->xs.length<=ys.length
 | [],_,_,_=>QG _
 | x::xs,ys,nd,h=>by
  rw[Q4]at nd;have hx:x∈ys:=h x Xj;have:=pigeon xs (ys.erase x) nd.2 λy hy=>(List.mem_erase_of_ne (λz:y=x=>nd.1 (by rw[<-z];exact hy))).mpr (h y (Qx _ hy));rw[List.length_erase_of_mem hx]at this;have:0<ys.length:=List.length_pos_of_mem hx;simp only[QS];omega
end
section
variable {κ:Type} [DecidableEq κ] {nx:κ->List κ} {s:κ}
end
end Bf
namespace L2
open PySem PySem.Spec PyProof.Rows
section
variable {X:Cx}
end
section
variable {X:Cx} {scope:Scope} {tgs:List Str} {cap:List (Str × Nat)}
theorem Bp {j:Nat} {x:Str} {pos' spos:Pos} {elt tg iter:Expr} {ifs:List Expr} {pos:Pos} {wi:TI} {g:TG} {tt:TT} {te:TE} (hN:X.N.Nodup) (hj:X.N[j]?=some x) (hx:Loc X.env.scope x) (hc:X.calm=true) (B:BlockOk X scope tgs cap) (hi:PI X tg iter wi)
  (hg:∀C s H fp,PG (X.block (tgs++cap.map (·.1)) scope C s H fp) tg g) (ht:∀C s H fp,yE (X.block (tgs++cap.map (·.1)) scope C s H fp) ifs tt) (he:∀C s H fp,PE (X.block (tgs++cap.map (·.1)) scope C s H fp) elt te)
  (hs:∀x,foldedSetIterable iter X.env x=pure x:=by intro _;rfl) (hsw:swapsWith (.ListComp elt [{tg,iter,ifs,0}] scope pos) (some (.Name x pos')) spos.line X.env=pure true:=by rfl)
  (hf:X.fn x=true\/X.env.scope.names.lookup x=some .local:=by z_go):PS X (.Assign [.Name x pos'] (.ListComp elt [{tg,iter,ifs,0}] scope pos) spos) (ua (iZ wi g tt te (ca tgs cap)) (eE j)):=by
 intro pins s U H D I h;rw[exec_Assign_Name_used _ _ _ _ hsw];refine Qb (wpAny_standAt (Qb ?_));show wpAny _ _ (comprehension _ _ _ _ _ _ _ _ >>= _) _ _ _;refine Qb (thn (Q:=λ_ s'=>SP X pins D .next s') ?_ λ_ s' q=>Qf (Qf q));refine wpAny_comprehension_free (use:=some (assign (.Name x pos') X.env)) rfl hs (kZ (B.cellAt I.ok)) B.kind B.locs (thn (hi pins s U H _ I h) λv s1 h1=>thn h1 λitv s2 h2=>?_);obtain⟨it,fp,tn,J,H2,e,I2,T,st2,f2,q⟩:=h2;subst e;have lt2:∀b∈fp,b<s2.heap.objs.size:=λb hb=>let ⟨o,e,_⟩:=T.obj _ _ st2 b hb;Ql e;have hD:H2 s2.heap.objs.size=none:=I2.hok.fresh (Qh _);obtain⟨W,⟨m0,w0⟩,turn⟩:=q s2.heap.objs.size hD;refine wpAny_newObj_type ?_;have I3:Inv X pins U (upd H2 s2.heap.objs.size (.lst [])) { s2 with heap:=s2.heap.push { cls:=.type "list", dict:=none,data:=.seq ([]:List Value).toArray } }:=I2.lnew (t':=s2.toks) (ys:=[]) (its:=[]) .nil (QG _);have st3:tn 0 (s2.heap.push { cls:=.type "list", dict:=none,data:=.seq ([]:List Value).toArray }):=T.keep _ _ _ st2 λb _ o e=>Qd _ e;have nD:∀b∈fp,b≠s2.heap.objs.size:=λb hb=>Qz (lt2 b hb);have f3:∀b∈fp,hV X pins (upd H2 s2.heap.objs.size (.lst [])) b:=λb hb=>{by rw[am (nD b hb)];exact(f2 b hb).1,(f2 b hb).2};generalize hs3:({ s2 with heap:=s2.heap.push { cls:=.type "list", dict:=none,data:=.seq ([]:List Value).toArray } }:Shared)=s3 at I3 st3 ⊢;have st3':tn 0 s3.heap:=by rw[<-hs3];exact st3
 have lt3:∀b∈fp,b<s3.heap.objs.size:=λb hb=>let ⟨o,e,_⟩:=T.obj _ _ st3' b hb;Ql e;generalize hH3:upd H2 s2.heap.objs.size (.lst [])=H3 at I3 f3 w0;generalize s2.heap.objs.size=DD at *;refine wpAny_newFunctionEnv B.noc (by intro y hy;simp at hy) (λh1 hns hsb=>?_) B.kind;have old:∀b o,s3.heap.get? b=some o->h1.get? b=some o:=λb o e=>hsb.extBut b o (Qz (Ql e)) (Qd _ e);have I4:=Inv.enter (tk:=s3.toks+([]:List (Str × Value)).length) (h1:=h1) B I3 f3 lt3 hns old;have st4:tn 0 h1:=T.keep _ _ _ st3' λb _ o e=>old b o e
 have fpB:∀{H':Hp},(∀b∈fp,H' b=none)->∀b∈fp,hV (X.block (tgs++cap.map (·.1)) scope s3.heap.objs.size s3 H3 fp) [] H' b:=λ{H'} hn b hb =>
  {hn b hb,Qz (lt3 b hb),I4.ok.exfs b hb,.inl hb,λx c e=>(I4.ok.exf b hb).2 x c e,λp hp=>absurd (show p∈([]:F2) from hp) (by simp)}
 have loop:codeAny (model X.prog X.w) X.A (.compLoop (.ListComp elt [{tg,iter,ifs,0}] scope pos) 0 (.ref it) (.ref DD) (compEnvC scope (dw X.env scope.names []) s3.heap.objs.size X.env))
   (compPost (model X.prog X.w) X.A X.xe (some (assign (.Name x pos') X.env)) (λ_ s'=>SP X pins D .next s') (.ref DD) s3.heap.objs.size) { s3 with heap:=h1,toks:=s3.toks+([]:List (Str × Value)).length }:=by
  refine iz (λn s'=>∃i H' ys,Inv (X.block (tgs++cap.map (·.1)) scope s3.heap.objs.size s3 H3 fp) [] (ca tgs cap U) H' s'/\tn i s'.heap/\(∀b∈fp,H' b=none)/\W i n H' ys) ?_ m0 {0,H3,[],I4,st4,λb hb=>(f3 b hb).1,w0};rintro n s5 ⟨i,H5,ys,I5,st5,fr5,w5⟩;obtain⟨hl,ht5⟩:=turn i n H5 ys w5;rcases ht5 with⟨stop,qd⟩|⟨go,step⟩
  ·refine thn (T.done (X.block (tgs++cap.map (·.1)) scope s3.heap.objs.size s3 H3 fp) rfl rfl rfl hc i [] s5 _ H5 _ I5 (fpB fr5) st5 stop) λr s6 ⟨hr,I6⟩=>?_;subst hr;obtain⟨m6,n6,_⟩:=I6.loc;have IO:Inv X pins U H5 s6:=Inv.leave (h2:=s6.heap) I3 f3 I6 {rfl,λ_ _=>rfl};have fC:hV X pins H5 s3.heap.objs.size:={I6.free,(I3.fpOk (Qh _) (I3.hok.fresh (Qh _))).2};obtain⟨f0,f1,f2',f3',f4,f5⟩:=fC;refine wpAny_assign_Name (mt IO hN hj hx (show aZ (.ref DD) (.ref DD) from rfl) (λs7 I7 ⟨a,sb,ha⟩=>?_) hf)
   have na:s3.heap.objs.size≠a:=by
    rcases ha with z|z
    ·rw[z];exact f1
    exact λy=>f4 x a z y.symm
   obtain⟨o6,es6,ep6,ho6,r6⟩:=n6;refine{m6,{o6,es6,ep6,(sb.2 _ na).trans ho6,r6},λh' hs'=>{_,H5,I7.turned (t':=s7.toks) (λb o hb q=>(hs'.2 b hb).trans q) f0 f1 f3' f4 f5,qd} }
  refine thn (T.item (X.block (tgs++cap.map (·.1)) scope s3.heap.objs.size s3 H3 fp) rfl rfl rfl hc i [] s5 _ H5 _ I5 (fpB fr5) st5 go) λr s6 ⟨u,hr,h6⟩=>?_;subst hr;refine thn h6 λ_ s7 ⟨x,H7,I7,r7,y7,st7,fr7⟩=>?_;have I7':=I7.pinned (fpB fr7) (T.obj _ _ st7)
  have again:∀{σ8:St} {H8:Hp} {s8:Shared} {ys8:List V},Inv (X.block (tgs++cap.map (·.1)) scope s3.heap.objs.size s3 H3 fp) ([]++iM fp s7.heap) σ8 H8 s8->wk (ca tgs cap U) σ8->(∃m',m'<n/\W (i+1) m' H8 ys8) ->
    ∃m,m<n/\∃i H' ys,Inv (X.block (tgs++cap.map (·.1)) scope s3.heap.objs.size s3 H3 fp) [] (ca tgs cap U) H' s8/\tn i s8.heap/\(∀b∈fp,H' b=none)/\W i m H' ys:=λ{σ8 H8 s8 ys8} I8 k8 ⟨m',hm,w8⟩=>by
   refine{m',hm,i+1,H8,ys8,I8.unpinned.weak (ng k8) (nh k8),T.keep _ _ _ st7 λb hb o e=>(I8.pin (b,o) (QR _ (QR _ (dC hb e)))).1,λb hb=>?_,w8};obtain⟨o,e,d⟩:=T.obj _ _ st7 b hb;exact(I8.pin (b,o) (QR _ (QR _ (dC hb e)))).2.1
  refine thn (hg _ _ _ _ _ s7 _ H7 x u _ I7' r7 (step x H7 y7)) λ_ s8 ⟨σ8,H8,I8,k8,q8⟩=>?_;refine thn (ht _ _ _ _ _ s8 σ8 H8 _ I8 q8) λok s9 ⟨H9,I9,q9⟩=>?_
  cases ok with
  | false =>
   rw[QI Qn]at q9 ⊢;exact again I9 k8 q9
  | true =>
  rw[QL rfl]at q9 ⊢;refine thn (he _ _ _ _ _ s9 σ8 H9 _ I9 q9) λy sA ⟨yv,HA,IA,rA,hA,zA,qA⟩=>?_;exact thn (a7 _ sA σ8 HA (.ref DD) [yv] (.ref DD) [y] (λv H'=>v=.non/\∃m',m'<n/\W (i+1) m' H' (ys++[yv])) IA rfl (.cons rA .nil) ⟨DD,ys,yv,rfl,rfl,hA,zA,rfl,qA⟩) λ_ sB ⟨_,HB,IB,_,_,qB⟩=>again IB k8 qB
 exact codeAny_compStart_list loop (T.self _ 0 _ _ _ st4 loop)
end
end L2
namespace L2
open PySem PySem.Spec PyProof.Rows
open AutoSeq1 (wpAny_loadPart')
section
variable {P:Program} {w:World} {A:Around} {E:F1} {s:Shared}
theorem uY (l:Addr) (c:Int) (tc:Tok) (hc:Builtin.SmallTypes.fitsIndex c=true) (its:Array Value) (m:Nat) (dd:Option Addr) (ss:Array (Option Value)) :
  Meets (Builtin.«enumerate.__new__» {[.type "enumerate", .ref l],[("start", .int c tc)]}) (λ_ R t=>t.heap.get? l=some { cls:=.type "list", dict:=dd,data:=.seq its m,slots:=ss } /\
   R (.ok (.ret (.ref (t.heap.push { cls:=.type "list_iterator", data:=.fields #[.ref l,.int 0 0] }).objs.size)))
    { t with heap:=(t.heap.push { cls:=.type "list_iterator", data:=.fields #[.ref l,.int 0 0] }).push { cls:=.type "enumerate", data:=.fields #[.none,.bool false,.ref t.heap.objs.size,rawInt c,.none,.none] } }):=by
 refine .of_wp λP w A R t ht=>?_;obtain⟨hp,g,d,tk,os⟩:=t;obtain⟨hl,h⟩:=ht;have sub:=sub_enumerate;have hL:Heap.IsList (Shared.heap ⟨hp,g,d,tk,os⟩) l its:=⟨_,hl,rfl,m,rfl⟩
 wp_walk using wpAny_loadPart' hl
 refine wpAny_stack_any λst=>Qf ?_;have nf:(!Builtin.SmallTypes.fitsIndex c)=false:=by rw[hc];rfl
 split
 rotate_left
 ·(wp_walk using wpAny_loadPart' hl,wpAny_pyIter_list hL);exact⟨_,rfl,h⟩
 rename_i k _ _ _ _ _
 cases (k==Value.type "enumerate") <;> ((wp_walk using wpAny_loadPart' hl,wpAny_pyIter_list hL);exact⟨_,rfl,h⟩)
theorem tZ (a b:Value):checkTypeCall "enumerate" {[a],[("start", b)]}=pure ():=by kernel_rfl
theorem wu (a b:Value):checkBuiltinCall "enumerate.__new__" {[.type "enumerate", a],[("start", b)]}=pure ():=by kernel_rfl
theorem Eb (a b c:Value):argsOk "object.__init__" {[a,b],[("start", c)]}:=by
 show Bind.checkArgs _ _ _=_
 kernel_rfl
theorem wo {T nid:String} {o a b:Value} (hl:typeLookup (.type T) "__init__" = pure (some (.builtin "object.__init__"))) (hm:Bind.madeBy (.type T)=pure (some nid)) (ne:(some nid != some "object.__new__")=true) :
  Meets (Builtin.«object.__init__» {[o,a],[("start", b)]}) (λ_ R t=>t.TypeIs o T/\R (.ok (.ret .none)) t):=by
 refine .of_wp λP w A R t ⟨hT,hq⟩=>?_
 repeat (any_goals (first|assumption|wp_step))
 exact⟨_,rfl,hq⟩
end
end L2
namespace L2
open PySem PySem.Spec PyProof.Rows
variable {P:Program} {w:World} {A:Around} {E:F1} {s:Shared}
section
theorem sk {l:Addr} {c:Int} {tc:Tok} {its:Array Value} {Q:F1} (hc:Builtin.SmallTypes.fitsIndex c=true) (hL:s.heap.IsList l its)
  (h:∀h',IsEnum h' (s.heap.objs.size+1) s.heap.objs.size c .none->h'.IsListIter s.heap.objs.size l 0->(∀b o,s.heap.get? b=some o->h'.get? b=some o)->Q (.ref (s.heap.objs.size+1)) { s with heap:=h' }) :
  wpAny (model P w) A (call (.type "enumerate") [.ref l] [("start", .int c tc)]) Q E s:=by
 obtain⟨⟨k,dd,dt,ss⟩,hl,hk,m,hd⟩:=hL;have hk:k=.type "list" := hk;have hd:dt=.seq its m:=hd;subst hk hd;have ft:=F.called_enumerate;obtain⟨c0,tl,hmro⟩:=ft.mro;have hmade:=ft.made;have hsub:=ft.sub;have h1:=ft.notType;have h2:=ft.canCreate;have hct:=tZ (.ref l) (.int c tc);refine wpAny_call (codeAny_of_tree ?_);show wpAny _ _ (callAny (.type "enumerate") _) _ _ _;refine Qf {Code.quiet_builtin _ (by decide +kernel),Xs F.entry_type_call ?_};rw[Around.under_plain (weight_type_call_type "enumerate" [.ref l] [("start", .int c tc)]) (units_type_call_type "enumerate" [.ref l] [("start", .int c tc)])]
 repeat (any_goals (first|assumption|wp_step))
 have hcn:=wu (.ref l) (.int c tc);refine codeAny_mono (codeAny_call_builtin ft.plain F.entry_enumerate_new (wpAny_of_eq hcn ((uY l c tc hc its m dd ss) P w A.in1 (wants (λobj s₁=>s₁.TypeIs obj "enumerate" /\ Q obj s₁) E) s {hl,?_}))) λr s₁ hr=>?_
 ·have hz:(s.heap.push { cls:=.type "list_iterator", data:=.fields #[.ref l,.int 0 0] }).objs.size=s.heap.objs.size+1:=Xd ..;show _/\_;rw[hz];have he:=Qq (s.heap.push { cls:=.type "list_iterator", data:=.fields #[.ref l,.int 0 0] }) (o:={ cls:=.type "enumerate", data:=.fields #[.none,.bool false,.ref s.heap.objs.size,rawInt c,.none,.none] }) rfl;rw[hz]at he;exact{⟨_,he,rfl⟩,h _ he {_,Qd _ (Qq _ rfl),rfl,rfl} λb o x=>Qd _ (Qd _ x)}
 cases r with
 | error e=>exact hr
 | ok fl =>
 cases fl with
 | ret obj =>
  obtain⟨hT,hq⟩:=hr;have hli:=ft.init.lookup;have hbi:=ft.init.bind obj
  repeat (any_goals (first|assumption|wp_step))
  refine codeAny_mono (codeAny_call_builtin ft.init.plain F.entry_object_init (ft.init.check _ _ _ _ _ _ _ _ hT (Eb obj _ _) ((wo ft.init.lookup ft.made (by decide)) P w A.in1 (wants (λr s₂=>r=.none/\Q obj s₂) E) s₁ ⟨hT,rfl,hq⟩))) λr₂ s₂ hr₂=>?_
  cases r₂ with
  | error e=>exact hr₂
  | ok fl₂ =>
  cases fl₂ with
  | ret r=>obtain⟨rfl,hq⟩:=hr₂;repeat (any_goals (first|assumption|wp_step))
  | _=>exact hr₂.elim
 | _=>exact hr.elim
end
section
variable {its:Array Value} {e it l:Addr}
theorem rY {i:Nat} {c:Int} {x old:Value} {Q:F1} (he:IsEnum s.heap e it c old) (hit:s.heap.IsListIter it l i) (hl:s.heap.IsList l its) (hx:its[i]?=some x) (hne:e≠it)
  (hQ:∀h',IsEnumOut h' e it (c+1) x s.heap.objs.size->h'.IsListIter it l (i+1)->h'.get? s.heap.objs.size=some { cls:=.type "tuple", data:=.seq #[.int c s.toks,x] } ->
   (∀b o,b≠e->b≠it->s.heap.get? b=some o->h'.get? b=some o)->Q (.ref s.heap.objs.size) { s with heap:=h',toks:=s.toks+1 }) :
  wpAny (model P w) A (Builtin.«enumerate.__next__» {[.ref e],[]}) (λfin s'=>∃v,fin=.done (.ret v)/\Q v s') E s:=by
 obtain⟨hp,g,d,tk,os⟩:=s;show wpAny _ _ (field (.ref e) 2 >>= _) _ _ _;refine Qb (Xr he rfl (x:=.ref it) rfl (Qb (wpAny_nextOf_list_item hit hl hx λk1 i1 s1=>?_)));have s1:Heap.SameBut it hp k1:=s1;have e1:IsEnum k1 e it c old:=(s1.2 e hne).trans he;show wpAny _ _ (field (.ref e) 3 >>= _) _ _ ⟨k1,g,d,tk,os⟩;refine Qb (Xr e1 rfl (x:=rawInt c) rfl ?_);show wpAny _ _ (field (.ref e) 4 >>= _) _ _ ⟨k1,g,d,tk,os⟩;refine Qb (Xr e1 rfl (x:=.none) rfl ?_);show wpAny _ _ (mkInt c >>= _) _ _ ⟨k1,g,d,tk,os⟩;refine Qb (wpAny_mkInt ?_);show wpAny _ _ (setField (.ref e) 3 (rawInt (c+1)) >>= _) _ _ {k1,g,d,tk+1,os};refine Qb (Xk e1 (by simp) λk2 e2 s2=>?_);have s2:Heap.SameBut e k1 k2:=s2;have e2:IsEnum k2 e it (c+1) old:=e2;show wpAny _ _ (setField (.ref e) 4 .none >>= _) _ _ {k2,g,d,tk+1,os};refine Qb (Xk e2 (by simp) λk3 e3 s3=>?_);have s3:Heap.SameBut e k2 k3:=s3;have e3:IsEnum k3 e it (c+1) old:=e3;show wpAny _ _ (newTuple [.int c tk,x] >>= _) _ _ {k3,g,d,tk+1,os};refine Qb (wpAny_newTuple ?_);have e4:IsEnum (k3.push { cls:=.type "tuple", data:=.seq #[.int c tk,x] }) e it (c+1) old:=Qd _ e3;generalize hh:k3.push { cls:=.type "tuple", data:=.seq #[.int c tk,x] }=k4 at e4;have sz:k3.objs.size=hp.objs.size:=by rw[s3.1,s2.1,s1.1]
 have el:e<hp.objs.size:=Ql he;have t4:k4.get? hp.objs.size=some { cls:=.type "tuple", data:=.seq #[.int c tk,x] }:=by rw[<-hh,<-sz];exact Qq _ rfl
 have kp:∀b o,b≠e->b≠it->hp.get? b=some o->k4.get? b=some o:=λb o n1 n2 q=>by rw[<-hh];exact Qd _ (s3.extBut b o n1 (s2.extBut b o n1 (s1.extBut b o n2 q)))
 have i4:k4.IsListIter it l (i+1):=by
  obtain⟨o,ho,r⟩:=(i1.extBut s2.extBut (XH hne)).extBut s3.extBut (XH hne);exact{o,by rw[<-hh];exact Qd _ ho,r}
 show wpAny _ _ (Builtin.SmallTypes.ownedTupleIsFree (.ref e) >>= _) _ _ {k4,g,d,tk+1,os};rw[sz];refine Qb ?_;unfold Builtin.SmallTypes.ownedTupleIsFree;refine Qb (Xr e4 rfl (x:=.none) rfl (Qf ?_));simp only[if_true];refine Qb (XR (Qb (Xr e4 rfl (x:=old) rfl (Qb (Xk e4 (by simp) λk5 e5 s5=>?_)))));have s5:Heap.SameBut e k4 k5:=s5;have e5:IsEnum k5 e it (c+1) x:=e5;show wpAny _ _ (Builtin.SmallTypes.ownedTupleHandOut (.ref e) (.ref hp.objs.size) >>= _) _ _ {k5,g,d,tk+1,os};refine Qb ?_;unfold Builtin.SmallTypes.ownedTupleHandOut;refine Qb (Xk e5 (by simp) λk6 e6 s6=>?_);have s6:Heap.SameBut e k5 k6:=s6;have e6:IsEnumOut k6 e it (c+1) x hp.objs.size:=e6;refine Xk e6 (by simp) λk7 e7 s7=>?_;have s7:Heap.SameBut e k6 k7:=s7;have e7:IsEnumOut k7 e it (c+1) x hp.objs.size:=e7;have far:∀b o,b≠e->k4.get? b=some o->k7.get? b=some o:=λb o n q=>s7.extBut b o n (s6.extBut b o n (s5.extBut b o n q));exact Qb (wpAny_letGo (Qf {_,rfl,hQ k7 e7 (((i4.extBut s5.extBut (XH hne)).extBut s6.extBut (XH hne)).extBut s7.extBut (XH hne)) (far _ _ (XE el) t4) λb o n1 n2 q=>far b o n1 (kp b o n1 n2 q)}))
variable {Q:Option Value->Shared->Prop}
theorem nX {i:Nat} {c:Int} {x old:Value} (he:IsEnum s.heap e it c old) (hit:s.heap.IsListIter it l i) (hl:s.heap.IsList l its) (hx:its[i]?=some x) (hne:e≠it)
  (hQ:∀h',IsEnumOut h' e it (c+1) x s.heap.objs.size->h'.IsListIter it l (i+1)->h'.get? s.heap.objs.size=some { cls:=.type "tuple", data:=.seq #[.int c s.toks,x] } ->
   (∀b o,b≠e->b≠it->s.heap.get? b=some o->h'.get? b=some o)->Q (some (.ref s.heap.objs.size)) { s with heap:=h',toks:=s.toks+1 }):wpAny (model P w) A (pyNext (.ref e)) Q E s:=by
 have ty:s.TypeIs (.ref e) "enumerate" := ⟨_,he,rfl⟩;unfold pyNext;refine Qb (wpAny_attempt (XW (name:=Str.ofString "__next__") ty F.slot_enumerate_next (XF F.slot_enumerate_next ty F.entry_enumerate_next (rY he hit hl hx hne λh' a b c k=>?_) (F.args_enumerate_next_1 _))));exact Qf (hQ h' a b c k)
theorem iK {i:Nat} {c:Int} {old:Value} (hh:A.handled=none) (he:IsEnum s.heap e it c old) (hit:s.heap.IsListIter it l i) (hl:s.heap.IsList l its) (hx:its[i]?=none)
  (hQ:∀h',Heap.ExtBut it s.heap h'->Q none { s with heap:=h' }):wpAny (model P w) A (pyNext (.ref e)) Q E s:=by
 have ty:s.TypeIs (.ref e) "enumerate" := ⟨_,he,rfl⟩;unfold pyNext;refine Qb (wpAny_attempt (XW (name:=Str.ofString "__next__") ty F.slot_enumerate_next (XF F.slot_enumerate_next ty F.entry_enumerate_next ?_ (F.args_enumerate_next_1 _))));show wpAny _ _ (field (.ref e) 2 >>= _) _ _ _;refine Qb (Xr he rfl (x:=.ref it) rfl (Qb (wpAny_nextOf_list_end hh hit hl hx λh' y hx' ⟨o,ho,ko⟩=>?_)));exact Qb (wpAny_isInstance (T := "StopIteration") (b:=true) ⟨o,ho,ko⟩ isSubtype_stop (Qf (hQ _ hx')))
end
noncomputable def xo (K:PySem.W.Frag) (a:Addr) (n:Int):It :=
 {λi H=>∃xs x,SqL K H a xs/\xs[i]?=some x,λi H x H'=>∃T v,H T=none/\x=.ref T/\H'=upd H T (.tup [.int (n+(i:Nat)),v])/\∀xs,SqL K H a xs->xs[i]?=some v,λi H=>∃xs,SqL K H a xs/\xs.length<=i}
variable {K:PySem.W.Frag}
theorem qR {P:Program} {w:World} {elts:List Expr} {k:Nat} {pos:Pos} (a e it:Addr) (n:Int) (hne:e≠it) :
  Turn P w K (.Tuple elts k pos) (xo K a n) [e,it] e (λi h=>(∃old,IsEnum h e it (n+(i:Nat)) old)/\h.IsListIter it a i) where
 mem:=by simp
 obj:=λi h st b hb=>by
  obtain⟨⟨old,he⟩,o,ho,hc,hd⟩:=st;have z:b=e\/b=it:=by simpa using hb
  rcases z with z|z
  ·subst z
   exact{_,he,λv q=>by
    have q':Data.fields _=Data.cell v:=q
    cases q'}
  subst z;exact{o,ho,λv q=>by rw[hd]at q;cases q}
 keep:=λi h h' st kk=>by
  obtain⟨⟨old,he⟩,hl⟩:=st;exact{ {old,kk e (by simp) _ he},hl.at λo q=>kk it (by simp) o q}
 item:=by
  intro X hP hw hK hc i pins s U H E I hf st hg;subst hP hw hK;obtain⟨xs,x,hq,hx⟩:=hg;obtain⟨its,rv,p,hz⟩:=I.list hq;obtain⟨u,hu,ru⟩:=rv.get hx;obtain⟨⟨old,he⟩,hl⟩:=st;have f1:=hf e (by simp);have f2:=hf it (by simp);refine nX he hl p.isList (x:=u) (by simpa using hu) hne λh1 a1 a2 a3 a5=>{_,rfl,?_};refine wpAny_letOwnedTupleGo_enum a1 λh2 b1 b2=>?_
  have nTe:s.heap.objs.size≠e:=λz=>by
   have q:=Ql (show s.heap.get? e=some _ from he);rw[<-z]at q;exact Nat.lt_irrefl _ q
  have keep2:∀b o,b≠e->b≠it->s.heap.get? b=some o->h2.get? b=some o:=λb o n1 n2 q=>b2.extBut b o n1 (a5 b o n1 n2 q);have tup2:h2.get? s.heap.objs.size=some { cls:=.type "tuple", data:=.seq #[.int (n+(i:Nat)) s.toks,u] }:=b2.extBut _ _ nTe a3
  have I2:Inv X pins U (upd H s.heap.objs.size (.tup [.int (n+(i:Nat)),x])) { s with heap:=h2,toks:=s.toks+1 } :=
   I.turned2 keep2 f1 f2 (Qh _) {(by show 2<=sizeLine;decide),[.int (n+(i:Nat)) s.toks,u],.cons ⟨_,rfl⟩ (.cons ru .nil),⟨_,tup2,rfl,_,rfl⟩}
  refine{.ref s.heap.objs.size,_,I2,rfl,{s.heap.objs.size,x,I.hok.fresh (Qh _),rfl,rfl,λys hy=>by rw[I.list_inj hy hq];exact hx},{ {u,?_},(a2.extBut b2.extBut (XH hne))},λb hb=>?_}
  ·have q:IsEnum h2 e it (n+(i:Nat)+1) u:=b1;have c:n+(((i+1:Nat):Nat):Int)=n+(i:Nat)+1:=by omega
   rw[c];exact q
  have z:b=e\/b=it:=by simpa using hb
  have nT:b≠s.heap.objs.size:=by
   rcases z with z|z
   ·rw[z];exact XH nTe
   rw[z];obtain⟨o,ho,_⟩:=hl;exact Qz (Ql ho)
  rw[am nT];exact(hf b hb).1
 done:=by
  intro X hP hw hK hc i pins s U H E I hf st hg;subst hP hw hK;obtain⟨xs,hq,hx⟩:=hg;obtain⟨its,rv,p,hz⟩:=I.list hq;obtain⟨⟨old,he⟩,hl⟩:=st;obtain⟨f0,f1,f2,f3,f4,f5⟩:=hf it (by simp);have hlen:=rv.length;exact iK (I.ok.hd hc) he hl p.isList (by simp;exact om4 hx hlen) λh' eb=>{rfl,I.turned (t':=s.toks) (λb o hb q=>eb b o hb q) f0 f1 f3 f4 f5}
 self:=λ_ _ _ _ _ st h=>by
  obtain⟨⟨old,he⟩,_⟩:=st;exact wpAny_pyIter_enum he h
section
variable {X:Cx} {elts:List Expr} {k:Nat} {tpos:Pos}
def AU (K:PySem.W.Frag) (ta tk:TA):TI:=λU H R=>ta U H λvs H1=>tk U H1 λzs H2=>∃a n,vs=[.ref a]/\zs=[.int n]/\(0<=n/\n<1000)/\(∃xs,SqL K H2 a xs)/\R (xo K a n) H2
variable {E Q:F1}
theorem lh {M:Model} {env:Env} {pos:Pos} {T:String} {e:Expr} {kws:List Keyword} {A:Around} {s:Shared}
  (h:wpAny M A (spliced (backTo pos (starEach [e] env))) (λvs s1=>wpAny M A (evalAll ((backToKw pos (keywordEach kws env)).map (·.2))) (λzs s2=>wpAny M A (call (.type T) vs (((backToKw pos (keywordEach kws env)).filterMap (·.1)).zip zs)) Q E s2) E s1) E s)
  (he:backTo pos (starEach [e] env)=(false,eval e env)::backTo pos (starEach [] env):=by rfl) (hp:(backTo pos (starEach [e] env)).any (·.1)=false:=by rfl) (ha:(backToKw pos (keywordEach kws env)).all (·.1.isSome)=true:=by rfl) (hk:(backToKw pos (keywordEach kws env)).any (·.1.isNone)=false:=by rfl) :
  wpAny M A (callWith pos (.type T) [] (backTo pos (starEach [e] env)) (backToKw pos (keywordEach kws env))) Q E s:=by
 unfold callWith;refine Qb (Q2 (Xp (show wpAny M A (evalArgs _ true _ _) (λa s1=>wpAny M A (call (.type T) a.pos a.kw) Q E s1) E s from ?_) (λa s1 h1=>Qb (wpAny_standAt ?_)) λ_ _ x=>x))
 ·rw[he]at h ⊢;exact evalArgs_kwB ha h
 simp only[hp,hk,Bool.or_false];refine Qb (Qf ?_);exact Qb (Xp h1 (λr s2 hr=>Qb (Q2 (wpAny_point (Qf hr)))) λ_ _ x=>x)
theorem vQ {a b:Expr} {ta tk:TA} {p pos kp:Pos} (hg:Gl X "enumerate") (hm:X.mg "enumerate" = none) (ha:PA X [a] ta) (hb:PK X [{some "start", b,kp}] tk) (he:∀pos,backTo pos (starEach [a] X.env)=(false,eval a X.env)::backTo pos (starEach [] X.env):=by intro pos;rfl) :
  PI X (.Tuple elts k tpos) (.Call (.Name "enumerate" p) [a] [{some "start", b,kp}] pos) (AU X.K ta tk):=by
 intro pins s U H R I h;refine wpAny_Call_Name_kw (dR I hg hm boot_enumerate ?_);refine lh (thn (ha pos pins s U H _ I h) λus s1 ⟨vs,H1,I1,r1,q1⟩=>thn (hb pos pins s1 U H1 _ I1 q1) λws s2 ⟨zs,H2,I2,rz,q2⟩=>?_) (he pos) (by rw[he pos];rfl);obtain⟨l,n,e1,e2,⟨n0,n1⟩,⟨xs,hq⟩,q⟩:=q2;subst e1 e2
 cases r1 with
 | cons r rr =>
 cases rr;cases r;obtain⟨u,e,ru⟩:=d_ rz;subst e;obtain⟨tc,e⟩:=ru;subst e;obtain⟨its,rv,pl,hz⟩:=I2.list hq;refine sk (c:=n) (tc:=tc) (by unfold Builtin.SmallTypes.fitsIndex;simp;omega) pl.isList λh' b1 b2 b4=>?_;refine wpAny_pyIter_enum b1 ?_;have I3:Inv X pins U H2 { s2 with heap:=h' }:=I2.kept (t':=s2.toks) b4;refine{s2.heap.objs.size+1,[s2.heap.objs.size+1,s2.heap.objs.size],_,_,H2,rfl,I3,qR l (s2.heap.objs.size+1) s2.heap.objs.size n (by show @Ne Nat _ _;exact om5),{ {_,by rw[show n+((0:Nat):Int)=n from ⋯];exact b1},b2},λb hb=>?_,q};have z:b=s2.heap.objs.size+1\/b=s2.heap.objs.size:=by simpa using hb
 have hle:s2.heap.objs.size<=b:=by
  rcases z with z|z
  ·rw[z];exact Nat.le_succ _
  rw[z];exact Qh _
 exact I2.fpOk hle (I2.hok.fresh hle)
end
theorem uW {a:Addr} {n:Int} {xs:List V} {g:TG} {tb:TS} {D:Ends} {U:St} {H:Hp} (Pv:Nat->St->Hp->Prop) (h0:Pv 0 U H) (hl:∀i U H,i<=xs.length->Pv i U H->SqL K H a xs)
  (hs:∀i x U H T,xs[i]?=some x->Pv i U H->H T=none->g (.ref T) U (upd H T (.tup [.int (n+(i:Nat)),x])) λσ2 H2=>tb { D with nx:=Pv (i+1),ct:=Pv (i+1),bk:=D.nx } σ2 H2) (hd:∀U H,Pv xs.length U H->D.nx U H) :
  ∃W:Nat->Nat->St->Hp->Prop,(∃m,W 0 m U H)/\∀i m U H,W i m U H ->
   ((xo K a n).stop i H/\D.nx U H)\/((xo K a n).go i H/\∃N:St->Hp->Prop,(∀σ' H',N σ' H'->∃m',m'<m/\W (i+1) m' σ' H')/\∀x H',(xo K a n).yld i H x H'->g x U H' λσ2 H2=>tb { D with nx:=N,ct:=N,bk:=D.nx } σ2 H2):=by
 refine{λi m U H=>m=xs.length-i/\i<=xs.length/\Pv i U H,{xs.length,by simp,QG _,h0},?_};rintro i m U H ⟨rfl,hi,p⟩;have q:=hl i U H hi p;by_cases hlt:i<xs.length
 ·refine .inr { {xs,xs[i],q,by simp[hlt]},Pv (i+1),λσ' H' p'=>{xs.length-(i+1),by exact om6 hlt,rfl,hlt,p'},λx H' y=>?_};obtain⟨T,v,hT,ex,eH,y⟩:=y;subst ex eH;exact hs i v U H T (y xs q) p hT
 have e:i=xs.length:=by exact om0 hi hlt
 subst e;exact .inl { {xs,q,Qh _},hd U H p}
theorem gX {H1:Hp} {D:Addr} {σ0:St} {g:TG} {te:TE} {tt:TT} {QD:Hp->Prop} {a:Addr} {xs:List V} (Pv:Nat->Hp->List V->Prop) (h0:Pv 0 (upd H1 D (.lst [])) []) (hD:∀i H ys,Pv i H ys->H D=some (.lst ys)/\SqL K H a xs)
  (hs:∀i x H ys,xs[i]?=some x->Pv i H ys->g x σ0 H λσ2 H2=>wk σ0 σ2/\tt σ2 H2 λb H3=>if b=true then te σ2 H3 (b8 Pv xs.length D i ys) else ∃m',m'<xs.length-i/\(m'=xs.length-(i+1)/\i+1<=xs.length/\Pv (i+1) H3 ys)) (hd:∀H ys,Pv xs.length H ys->QD H) :
  ∃W:Nat->Nat->Hp->List V->Prop,(∃m,W 0 m (upd H1 D (.lst [])) [])/\∀i m H ys,W i m H ys->H D=some (.lst ys)/\(((Itl K a).stop i H/\QD H)\/((Itl K a).go i H/\∀x H',(Itl K a).yld i H x H'->g x σ0 H' λσ2 H2=>wk σ0 σ2/\tt σ2 H2 λb H3 =>
   if b=true then te σ2 H3 λv H4=>H4 D=some (.lst ys)/\ys.length<sizeLine/\∃m',m'<m/\W (i+1) m' (upd H4 D (.lst (ys++[v]))) (ys++[v]) else ∃m',m'<m/\W (i+1) m' H3 ys)):=by
 refine{λi m H ys=>m=xs.length-i/\i<=xs.length/\Pv i H ys,{xs.length,by simp,QG _,h0},?_};rintro i m H ys ⟨rfl,hi,p⟩;obtain⟨d1,d2⟩:=hD i H ys p;refine{d1,?_};by_cases hlt:i<xs.length
 ·refine .inr { {xs,xs[i],d2,by simp[hlt]},λx H' y=>?_};obtain⟨e,y⟩:=y;subst e;exact hs i x _ ys (y xs d2) p
 have e:i=xs.length:=by exact om0 hi hlt
 subst e;exact .inl { {xs,d2,Qh _},hd H ys p}
theorem xk (n:Nat):((List.range n).all λ_=>true)=true:=QN.mpr λ_ _=>rfl
section
variable {K:PySem.W.Frag} {H:Hp} {Q:VK}
theorem DY {a b:Addr} {xs ys:List V} (h1:SqL K H a xs) (h2:SqL K H b ys) (hl:xs.length=ys.length) (hi:∀(j:Nat) x y,xs[j]?=some x->ys[j]?=some y->EqD K H 8 x y true) (q:Q (.bl false) H):pT K true (.ref a) (.ref b) H Q:=by
 refine{a,b,xs,ys,λ_=>true,rfl,rfl,h1,h2,hi,?_};rw[xk,hl,beq_self_eq_true];exact q
theorem r_eqNil {R:Bool->Hp->Prop} {l:Addr} {xs:List V} {U:St} (hl:H l=some (.lst xs)) (q:∀H',ao H H'->R (decide (xs.length=0)) H'):t_ dW U H λy H2=>pT K false (.ref l) y H2 λx H'=>∃k,x=.bl k/\R k H':=by
 refine cA (aC {by simp[sizeLine],λp hp=>?_});refine{l,p,xs,[],λ_=>true,rfl,rfl,SqL.of (ag hp _ _ hl),SqL.of af,λj x y _ e=>by simp at e,_,rfl,?_}
 have e:(if false=true then !(xs.length==([]:List V).length&&(List.range xs.length).all λ_=>true) else (xs.length==([]:List V).length&&(List.range xs.length).all λ_=>true))=decide (xs.length=0):=by
  rw[QI Qn,xk,Bool.and_true];rfl
 rw[e];exact q _ (ag hp)
end
end L2
namespace LY
open PySem LZ
section
variable {prog:Program} {w:World} {A:Around} {E:F1} {s:Shared}
end
structure ApartM (z TI TO i1 i2 l m d:Addr):Prop extends ApartD z TI TO i1 i2 l d where
 mz:m≠z
 mTO:m≠TO
 mi1:m≠i1
 mi2:m≠i2
 dm:d≠m
structure ZS (h:Heap) (z TI TO i1 i2 l d:Addr) (m:Addr) (xs ys:Array Value) (k:Nat):Prop where
 zf:(IsZ h z TI TO .none false/\∃a b,IsPair h TO a b)\/∃(T:Addr) (f1:Bool) (oT:Obj),IsZ h z TI TO (rawInt (T:Nat)) f1/\h.get? T=some oT/\T≠z/\T≠i1/\T≠i2/\T≠d
 ti:IsPair h TI (.ref i1) (.ref i2)
 a1:h.IsListIter i1 l k
 a2:h.IsListIter i2 m k
 li:h.IsList l xs
 mi:h.IsList m ys
section
variable {prog:Program} {w:World} {K:Type} [DecidableEq K] {knd:KeyKind prog w K} {A:Around} {R:Result->Shared->Prop}
end
end LY
namespace L2
open PySem PySem.Spec PyProof.Rows
section
variable {X:Cx} {elts:List Expr} {k:Nat} {tpos:Pos}
end
section
variable {X:Cx}
end
section
variable {X:Cx}
end
end L2
namespace LS
open PySem PySem.Spec PyProof.Rows
def Led (w:World) (t:SetTable) (n:Nat):Prop:=w.params.followText "set-order" = true\/(t.led=true/\(n≠0->t.plain=false))
theorem ub (t:SetTable) (n:Nat):(t.orStandIn n).led=t.led/\(t.plain=false->(t.orStandIn n).plain=false):=by
 unfold SetTable.orStandIn
 split
 ·exact⟨rfl,id⟩
 exact{rfl,λ_=>rfl}
theorem rP (t:SetTable) (es:Array (Int × Value)) (h:Int) (x:Value):(layNew t es h x).2.1.led=t.led/\(t.plain=false->(layNew t es h x).2.1.plain=false):=by
 unfold layNew
 split
 ·exact ub (t.put _).1 _
 exact{rfl,λ_=>rfl}
theorem wA {m f v:Nat} {l p:Bool} {hs:Array Int} {t:SetTable} {o:Array Nat} (h:SetTable.laid m f v l p hs=some (t,o)):t.led=l/\t.plain=p:=by
 unfold SetTable.laid at h
 cases e:SetTable.layClean m hs with
 | none=>rw[e]at h;cases h
 | some ow=>rw[e]at h;cases h;exact⟨rfl,rfl⟩
theorem uf (t:SetTable) (es:Array (Int × Value)) (n:Nat):(relayAll t es n).2.1.led=t.led/\(t.plain=false->(relayAll t es n).2.1.plain=false):=by
 unfold relayAll
 split
 ·rename_i t' o e
  obtain⟨e1,e2⟩:=wA e;dsimp only
  split
  ·exact{e1,λz=>e2.trans z}
  exact{rfl,λ_=>rfl}
 exact{rfl,λ_=>rfl}
def cM (prog:Program) (w:World) (h:Heap) (a:Addr) (S:Str->Bool) (n:Nat):Prop:=∃o es ep t,h.get? a=some o/\o.ExactSet/\o.data=.set es ep t/\ElemsOf (strKind prog w) es.toList/\(∀k,S k=true↔∃e∈es.toList,(strKind prog w).is k e.2=true)/\es.size<scanBound/\t.fits es.size=true/\es.size=n/\Led w t es.size
section
variable {prog:Program} {w:World} {A:Around} {E:F1} {s:Shared} {a:Addr} {S:Str->Bool} {n:Nat}
variable {es' es:Array (Int × Value)}
theorem cM.put {h:Heap} {o:Obj} {ep:Nat} {t:SetTable} (ho:h.get? a=some o) (hex:o.ExactSet) (hd:o.data=.set es ep t) {t':SetTable}
  (hel:ElemsOf (strKind prog w) es'.toList) (hm:∀k,S k=true↔∃e∈es'.toList,(strKind prog w).is k e.2=true) (hb:es'.size<scanBound) (hf:t'.fits es'.size=true) (hn:es'.size=n) (hl:Led w t' es'.size) :
  (h.update a (Obj.putSet es' t')).get? a=some { o with data:=.set es' (ep+1) t' }/\cM prog w (h.update a (Obj.putSet es' t')) a S n:=by
 obtain⟨g,_⟩:=SetOf_store (knd:=strKind prog w) ho hex hd hel hm hb hf;exact{g,_,es',ep+1,t',g,hex,rfl,hel,hm,hb,hf,hn,hl}
theorem yA {k:Str} {tok:Tok} {Q:Bool->Shared->Prop} (hS:cM prog w s.heap a S n) (hroom:n+1<scanBound)
  (h:∀h' b,Heap.SameBut a s.heap h'->cM prog w h' a (λk'=>S k' || decide (k'=k)) (if S k then n else n+1)->Q b { s with heap:=h' }) :
  wpAny (model prog w) A (setAddHashed a (.str k tok) ((strKind prog w).hash k)) Q E s:=by
 obtain⟨o,es,ep,t,ho,hex,hd,hel,hm,hb,hf,hn,hl⟩:=hS;have hkey:(strKind prog w).is k (.str k tok)=true:=strKind_is _ _ _ _;have hsc:(Value.str k tok).scannable=true:=rfl;unfold setAddHashed setAddHashedIn;refine Q2 (Qb (wpAny_setState_of ho hd hf ?_));dsimp only;rw[byScan_of hsc hb hel];simp only[↓reduceIte];unfold setAddByScan;refine Qb (Qb (XR (Qb (wpAny_setScan_of hkey ho hd hf hel ?_))))
 cases hr:List.findIdx? (λe=>(strKind prog w).is k e.2) es.toList with
 | some j =>
  dsimp only;obtain⟨hj,hpj,_⟩:=List.findIdx?_eq_some_iff_getElem.mp hr;have hk:S k=true:=(hm k).mpr {_,Xo hj,hpj};refine Qf (Qf (h s.heap _ (Heap.SameBut.refl a s.heap) {o,es,ep,t,ho,hex,hd,hel,λk'=>?_,hb,hf,by rw[hk];exact hn,hl}));rw[Bool.or_eq_true,decide_eq_true_eq,<-hm k'];exact{λz=>z.elim id λe=>e▸hk,.inl}
 | none =>
 dsimp only
 have hk:S k=false:=by
  cases hk:S k with
  | false=>rfl
  | true=>obtain⟨e,he,hp⟩:=(hm k).mp hk;have:=List.findIdx?_eq_none_iff.mp hr e he;rw[hp]at this;exact Bool.noConfusion this
 have hperm:=layNew_perm t es ((strKind prog w).hash k) (.str k tok);have hfits:=layNew_fits t es ((strKind prog w).hash k) (.str k tok);obtain⟨l1,l2⟩:=rP t es ((strKind prog w).hash k) (.str k tok);generalize hL:layNew t es ((strKind prog w).hash k) (.str k tok)=L at hperm hfits l1 l2 ⊢;obtain⟨es1,t1,wasDummy,gave⟩:=L;dsimp only at hperm hfits l1 l2 ⊢;rw[Array.toList_push]at hperm;have hel1:=(hel.push hkey hsc).perm hperm;have hm1:∀k',(S k' || decide (k'=k))=true↔∃e∈es1.toList,(strKind prog w).is k' e.2=true:=mem_push_iff hkey hm hperm;have hz:es1.size=n+1:=by rw[<-Qs,hperm.length_eq,Qk,Qs,hn];rfl
 have hb1:es1.size<scanBound:=by rw[hz];exact hroom
 rw[hk]at h
 have tail:∀(t2:SetTable) (s1:Shared) (g:Bool->Sem Unit),(∀(b:Bool) (s₁:Shared) (Q':Unit->Shared->Prop),Q' () s₁->wpAny (model prog w) A (g b) Q' E s₁)->s1=s->t2.fits es1.size=true->Led w t2 es1.size ->
   wpAny (model prog w) A (do
    storeSet a es1 t2
    if (!wasDummy&&t2.tooFull)=true then do
      g (relayAll t2 es1 (SetTable.grown es1.size)).2.2
      storeSet a (relayAll t2 es1 (SetTable.grown es1.size)).1 (relayAll t2 es1 (SetTable.grown es1.size)).2.1
      pure (some true)
     else pure (some true)) (λr s'=>∃h' b,r=some b/\s'={ s with heap:=h' }/\Heap.SameBut a s.heap h'/\cM prog w h' a (λk'=>S k' || decide (k'=k)) (n+1)) E s1:=λt2 s1 g hg e f2 d2=>by
  subst e;refine Qb (wpAny_storeSet_of ho hd ?_ (fits_of_scanBound hb1));obtain⟨ho1,q1⟩:=cM.put ho hex hd hel1 hm1 hb1 f2 hz d2;have k1:=XG s1.heap a (Obj.putSet es1 t2)
  split
  ·have hp:=relayAll_perm t2 es1 (SetTable.grown es1.size);have hfr:=relayAll_fits t2 es1 (SetTable.grown es1.size);obtain⟨r1,r2⟩:=uf t2 es1 (SetTable.grown es1.size);generalize hRl:relayAll t2 es1 (SetTable.grown es1.size)=Rl at hp hfr r1 r2 ⊢;obtain⟨es2,t3,gave2⟩:=Rl;dsimp only at hp hfr r1 r2 ⊢;have hz2:es2.size=es1.size:=by rw[<-Qs,hp.length_eq,Qs]
   refine Qb (hg _ _ _ (Qb (wpAny_storeSet_of ho1 rfl ?_ (fits_of_scanBound (by rw[hz2];exact hb1)))))
   obtain⟨_,q2⟩:=cM.put (S:=λk'=>S k' || decide (k'=k)) (n:=n+1) ho1 hex rfl (hel1.perm hp) (λk'=>(hm1 k').trans {λ⟨e,he,q⟩=>{e,hp.mem_iff.mpr he,q},λ⟨e,he,q⟩=>{e,hp.mem_iff.mp he,q} }) (by rw[hz2];exact hb1) hfr (hz2.trans hz)
    (d2.imp id λz=>{r1.trans z.1,λy=>r2 (z.2 (by rw[<-hz2];exact y))})
   exact Qf {_,true,rfl,rfl,k1.trans (XG _ a _),q2}
  exact Qf ⟨_,true,rfl,rfl,k1,q1⟩
 have fin:∀(r:Option Bool) (s':Shared),(∃h' b,r=some b/\s'={ s with heap:=h' }/\Heap.SameBut a s.heap h'/\cM prog w h' a (λk'=>S k' || decide (k'=k)) (n+1))->∃h' b,r=some b/\s'={ s with heap:=h' }/\Q b s':=λr s' ⟨h',b,e1,e2,e3,e4⟩=>{h',b,e1,e2,by rw[e2];exact h h' b e3 (by simpa using e4)}
 have gw:∀(b:Bool) {s₁:Shared} {Q':Unit->Shared->Prop},Q' () s₁->wpAny (model prog w) A (match b with|true=>rule "set.scan.the-table-gave-way" | false=>pure ()) Q' E s₁ :=
  λb s₁ Q' hq=>by cases b <;> first|exact Qf hq|exact XR hq
 refine Qb (gw _ ?_)
 split
 ·refine Qb ?_;rw[hashByValue_scannable 8 hsc];refine Qf ?_;refine Xp (tail _ s _ ?_ rfl ?_ ?_) (λr s' z=>?_) λ_ _ z=>z
  ·intro b s₁ Q' hq;cases b <;> first|exact Qf hq|exact XR hq
  ·exact SetTable.fits_plain_off hfits
  ·exact hl.imp id λz=>{l1.trans z.1,λ_=>rfl}
  obtain⟨h',b,rfl,rfl,q⟩:=fin r s' z;exact Qf q
 rename_i hp
 refine Qb (Qf ?_);simp only[↓reduceIte];refine Xp (tail _ s _ ?_ rfl hfits ?_) (λr s' z=>?_) λ_ _ z=>z
 ·intro b s₁ Q' hq;cases b <;> first|exact Qf hq|exact XR hq
 ·exact hl.imp id λz=>{l1.trans z.1,λ_=>by simpa using hp}
 obtain⟨h',b,rfl,rfl,q⟩:=fin r s' z;exact Qf q
theorem cM.congr {h:Heap} {S':Str->Bool} {m:Nat} (q:cM prog w h a S n) (e:∀k,S k=S' k) (f:n=m):cM prog w h a S' m:=by
 obtain⟨o,es,ep,t,h1,h2,h3,h4,h5,h6,h7,h8,h9⟩:=q;exact{o,es,ep,t,h1,h2,h3,h4,λk=>by rw[<-e k];exact h5 k,h6,h7,h8.trans f,h9}
abbrev bare (led:Bool):Obj:={ cls:=.type "set", dict:=none,data:=.set #[] 0 (.fresh 0 0 led) }
theorem cM.bare {h:Heap} (g:h.get? a=some (bare !(w.params.followText "set-order"))):cM prog w h a (λ_=>false) 0 :=
 {_,#[],0,_,g,⟨rfl,rfl,rfl⟩,rfl,fun e he=>by simp at he,fun k=>by simp,by decide,rfl,rfl,by
  unfold Led
  cases e:w.params.followText "set-order" with
  | true=>exact .inl rfl
  | false=>exact .inr {rfl,λz=>absurd rfl z} }
theorem w_ (x:Value) {Q₁:F1} (h:Q₁ (.ref s.heap.objs.size) { s with heap:=s.heap.push (LS.bare !(w.params.followText "set-order")) }) :
  codeAny (model prog w) A (.call (.builtin "set.__new__") {[.type "set", x],[]}) (wants Q₁ E) s:=by
 refine codeAny_of_tree ?_;show wpAny _ A.in1 (do checkBuiltinCall "set.__new__" {[.type "set", x],[]};again (.builtin "set.__new__" {[.type "set", x],[]})) _ _ s;refine Qb (wpAny_of_eq (F.newCall_set_1 x) (Qf {plainId_quiet F.plain_set_new _,Xs F.entry_set_new ?_}));rw[Xg F.plain_set_new _];unfold Builtin.«set.__new__» Builtin.Frozenset.newClass;have hsub:=sub_set_self;obtain⟨hp,g,d,tk,os⟩:=s;dsimp only
 wp_walk
 refine wpAny_askSetting (Qf ?_);dsimp only;simp only[newObj];exact Qb (wpAny_alloc (Qf (Qf h)))
end
theorem c8:Slot "set_iterator" "__next__" "set_iterator.__next__" :=
 .of (owner := "set_iterator") (n := "__next__") (by rw[typeLookup_type,XN];kernel_rfl) (by decide +kernel) (by decide +kernel) (by decide +kernel)
  (by first|exact .inl (by decide +kernel)|exact .inr (by decide +kernel)) (by rw[isSubtype_type];kernel_rfl)
theorem ie:Slot "set_iterator" "__iter__" "set_iterator.__iter__" :=
 .of (owner := "set_iterator") (n := "__iter__") (by rw[typeLookup_type,XN];kernel_rfl) (by decide +kernel) (by decide +kernel) (by decide +kernel)
  (by first|exact .inl (by decide +kernel)|exact .inr (by decide +kernel)) (by rw[isSubtype_type];kernel_rfl)
theorem lZ:entryFor table "set_iterator.__next__" = some Builtin.«set_iterator.__next__»:=entryFor_of_tree (by kernel_rfl)
theorem l_:entryFor table "set_iterator.__iter__" = some Builtin.«dict_keyiterator.__iter__»:=entryFor_alias (id' := "dict_keyiterator.__iter__") (by kernel_rfl) rfl (by decide +kernel) (by kernel_rfl)
theorem kT:entryFor table "set.__iter__" = some Builtin.«frozenset.__iter__»:=entryFor_alias (id' := "frozenset.__iter__") (by kernel_rfl) rfl (by decide +kernel) (by kernel_rfl)
theorem p_:Manifest.owners.lookup (String.ofList ['r','o','t','a','r','e','t','i','_','t','e','s'].reverse)=some Manifest.sig_set_iterator:=by kernel_rfl
theorem oP (a:Value):argsOk "set_iterator.__next__" {[a],[]}:=by
 unfold argsOk;rw[signature?_of (id := "set_iterator.__next__") (n:=['_','_','t','x','e','n','_','_']) (o:=['r','o','t','a','r','e','t','i','_','t','e','s']) (by kernel_rfl) p_];kernel_rfl
theorem oQ (a:Value):argsOk "set_iterator.__iter__" {[a],[]}:=by
 unfold argsOk;rw[signature?_of (id := "set_iterator.__iter__") (n:=['_','_','r','e','t','i','_','_']) (o:=['r','o','t','a','r','e','t','i','_','t','e','s']) (by kernel_rfl) p_];kernel_rfl
def gd (h:Heap) (it a:Addr) (first:Value) (i n ep:Nat):Prop:=∃o,h.get? it=some o/\o.cls=.type "set_iterator" /\ o.data=.fields #[first,.int i 0,.ref a,.int n 0,.int ep 0]
def eQ (h:Heap) (a:Addr) (es:Array (Int × Value)) (ep:Nat) (t:SetTable):Prop:=∃o,h.get? a=some o/\o.data=.set es ep t/\o.cls=.type "set" /\ t.fits es.size=true
section
variable {prog:Program} {w:World} {A:Around} {E:F1} {s:Shared} {a it:Addr} {es:Array (Int × Value)} {ep:Nat} {t:SetTable} {i:Nat} {first:Value}
variable {n:Nat}
theorem gd.typeIs (h:gd s.heap it a first i n ep):s.TypeIs (.ref it) "set_iterator" := let ⟨o,ho,hc,_⟩:=h;⟨o,ho,hc⟩
theorem gd.at {h h':Heap} (x:gd h it a first i n ep) (e:∀o,h.get? it=some o->h'.get? it=some o):gd h' it a first i n ep:=let ⟨o,ho,r⟩:=x;{o,e _ ho,r}
theorem eQ.at {h h':Heap} (x:eQ h a es ep t) (e:∀o,h.get? a=some o->h'.get? a=some o):eQ h' a es ep t:=let ⟨o,ho,r⟩:=x;{o,e _ ho,r}
theorem ou {Q:F1} (hit:gd s.heap it a first i n ep) (h:Q (.ref it) s):wpAny (model prog w) A (pyIter (.ref it)) Q E s:=by
 refine wpAny_pyIter_slot hit.typeIs ie (XF ie hit.typeIs l_ ?_ (oQ _));show wpAny _ _ (ret (.ref it)) _ _ s;exact Qf {_,rfl, "set_iterator", _,hit.typeIs,c8.lookup,h}
variable {Q:Option Value->Shared->Prop}
theorem jy (hit:gd s.heap it a first i n ep) (h:wpAny (model prog w) A.in1 (Builtin.«set_iterator.__next__» {[.ref it],[]}) (λfin s'=>∃v,fin=Fin.done (Flow.ret v)/\wpAny (model prog w) A (pure (some v)) Q E s')
   (λe s'=>wpAny (model prog w) A (isInstance e (Value.type "StopIteration") >>= λb=>if b=true then pure none else throw e) Q E s') s):wpAny (model prog w) A (pyNext (.ref it)) Q E s :=
 Qb (wpAny_attempt (XW (name:=Str.ofString "__next__") hit.typeIs c8 (XF c8 hit.typeIs lZ h (oP _))))
theorem yO {h1:Heap} (hh:A.handled=none) (k:Heap.ExtBut it s.heap h1) (h:∀h',Heap.ExtBut it s.heap h'->Q none { s with heap:=h' }) :
  wpAny (model prog w) A.in1 (newExc (Value.type "StopIteration") [] >>= λe=>raiseNew (α:=Fin) e) (λfin s'=>∃v,fin=Fin.done (Flow.ret v)/\wpAny (model prog w) A (pure (some v)) Q E s')
   (λe s'=>wpAny (model prog w) A (isInstance e (Value.type "StopIteration") >>= λb=>if b=true then pure none else throw e) Q E s') { s with heap:=h1 }:=by
 refine Qb ?_;simp only[newExc,newTuple];refine Qb (wpAny_newObj_type ?_ (by size_fits));refine Qb (m:=firstArgMember _ _) (wpAny_of_eq (a:=Value.none) (by first|rfl|(simp only[firstArgMember];rfl)) ?_);refine wpAny_newObj_type ?_ (by size_fits);simp only[raiseNew];refine Qb (wpAny_handled ?_);rw[show A.in1.handled=none from hh];refine Qb (Qf (wpAny_throw ?_));refine Qb (wpAny_isInstance (T := "StopIteration") (b:=true) {_,Qq _ rfl,rfl} isSubtype_stop ?_);exact Qf (h _ ((k.push _).push _))
theorem mI {slot next:Nat} {x:Value} (hit:gd s.heap it a (.int slot 0) i es.size ep) (hs:eQ s.heap a es ep t)
  (hw:∀(Q:Option (Value × Nat)->Shared->Prop) (E:F1),Q (some (x,next)) s->wpAny (model prog w) A.in1 (setNext a slot i ep) Q E s)
  (h:∀h',gd h' it a (.int next 0) (i+1) es.size ep->Heap.SameBut it s.heap h'->Q (some x) { s with heap:=h' }):wpAny (model prog w) A (pyNext (.ref it)) Q E s:=by
 obtain⟨o,ho,hc,hd⟩:=id hit;obtain⟨os,hos,hds,_,hf⟩:=id hs;refine jy hit ?_;unfold Builtin.«set_iterator.__next__»;refine Qb (Qf (Qb (wpAny_fieldsOf ho hd ?_)));dsimp only;refine Qb (wpAny_setEntries_of hos hds hf ?_);rw[QI (by simp)];refine Qb (hw _ _ ?_);dsimp only;refine Qb (wpAny_setField ho hd (by simp) ?_);have h1:=XM (Obj.mapFields (·.setIfInBounds 0 (rawInt (next:Int)))) ho (Obj.isFreed_of_fields (XS hd _));have d1:=XS hd (·.setIfInBounds 0 (rawInt (next:Int)));refine Qb (wpAny_setField h1 d1 (by simp) ?_);refine Qf {_,rfl,Qf (h _ {_,XM _ h1 (Obj.isFreed_of_fields (XS d1 _)),(Obj.cls_mapFields ..).trans ((Obj.cls_mapFields ..).trans hc),by rw[XS d1];simp[rawInt]} ((XG ..).trans (XG ..)))}
theorem mJ {slot:Nat} (hh:A.handled=none) (hit:gd s.heap it a (.int slot 0) i es.size ep) (hs:eQ s.heap a es ep t)
  (hw:∀(Q:Option (Value × Nat)->Shared->Prop) (E:F1),Q none s->wpAny (model prog w) A.in1 (setNext a slot i ep) Q E s)
  (h:∀h',Heap.ExtBut it s.heap h'->Q none { s with heap:=h' }):wpAny (model prog w) A (pyNext (.ref it)) Q E s:=by
 obtain⟨o,ho,hc,hd⟩:=id hit;obtain⟨os,hos,hds,_,hf⟩:=id hs;refine jy hit ?_;unfold Builtin.«set_iterator.__next__»;refine Qb (Qf (Qb (wpAny_fieldsOf ho hd ?_)));dsimp only;refine Qb (wpAny_setEntries_of hos hds hf ?_);rw[QI (by simp)];refine Qb (hw _ _ ?_);dsimp only;refine Qb (wpAny_setField ho hd (by simp) ?_);exact yO hh (XG ..).extBut h
theorem rZ {tp:Addr} {pl:List Nat} {p:Nat} {e:Int × Value} (hit:gd s.heap it a (.ref tp) i es.size ep) (hs:eQ s.heap a es ep t) (ht:s.heap.get? tp=some { cls:=.type "tuple", data:=.seq (pl.map λ(i:Nat)=>rawInt i).toArray })
  (hp:pl[i]?=some p) (he:es[p]?=some e) (h:∀h',gd h' it a (.ref tp) (i+1) es.size ep->Heap.SameBut it s.heap h'->Q (some e.2) { s with heap:=h' }):wpAny (model prog w) A (pyNext (.ref it)) Q E s:=by
 obtain⟨o,ho,hc,hd⟩:=id hit;obtain⟨os,hos,hds,_,hf⟩:=id hs;refine jy hit ?_;unfold Builtin.«set_iterator.__next__»;refine Qb (Qf (Qb (wpAny_fieldsOf ho hd ?_)));dsimp only;refine Qb (wpAny_setEntries_of hos hds hf ?_);rw[QI (by simp)];refine Qb (wpAny_seqItems ht rfl ?_);dsimp only;rw[show (List.map (λ(i:Nat)=>rawInt (i:Int)) pl).toArray[(i:Int).toNat]?=some (rawInt (p:Int)) by rw[Xh,List.getElem?_toArray,Qi,hp];rfl];dsimp only[rawInt];unfold setNextDrawn;refine Qb (Qb (wpAny_setState_of hos hds hf ?_));dsimp only;rw[QI (by simp),Xh,he];refine Qb (Qf (Qf ?_));refine Qb (wpAny_setField ho hd (by simp) ?_);exact Qf {_,rfl,Qf (h _ {_,XM _ ho (Obj.isFreed_of_fields (XS hd _)),(Obj.cls_mapFields ..).trans hc,by rw[XS hd];simp} (XG ..))}
theorem r8 {tp:Addr} {pl:List Nat} (hh:A.handled=none) (hit:gd s.heap it a (.ref tp) i es.size ep) (hs:eQ s.heap a es ep t) (ht:s.heap.get? tp=some { cls:=.type "tuple", data:=.seq (pl.map λ(i:Nat)=>rawInt i).toArray })
  (hp:pl[i]?=none) (h:∀h',Heap.ExtBut it s.heap h'->Q none { s with heap:=h' }):wpAny (model prog w) A (pyNext (.ref it)) Q E s:=by
 obtain⟨o,ho,hc,hd⟩:=id hit;obtain⟨os,hos,hds,_,hf⟩:=id hs;refine jy hit ?_;unfold Builtin.«set_iterator.__next__»;refine Qb (Qf (Qb (wpAny_fieldsOf ho hd ?_)));dsimp only;refine Qb (wpAny_setEntries_of hos hds hf ?_);rw[QI (by simp)];refine Qb (wpAny_seqItems ht rfl ?_);dsimp only;have en:(List.map (λ(i:Nat)=>rawInt (i:Int)) pl).toArray[(i:Int).toNat]?=none:=by rw[Xh,List.getElem?_toArray,Qi,hp,Option.map_none]
 rw[en];dsimp only;refine Qb (wpAny_setField ho hd (by simp) ?_);have h1:=XM (Obj.mapFields (·.setIfInBounds 0 (rawInt 0))) ho (Obj.isFreed_of_fields (XS hd _));have d1:=XS hd (·.setIfInBounds 0 (rawInt 0));refine Qb (wpAny_setField h1 d1 (by simp) ?_);have k2:Heap.ExtBut it s.heap ((s.heap.update it (Obj.mapFields (·.setIfInBounds 0 (rawInt 0)))).update it (Obj.mapFields (·.setIfInBounds 2 .none))):=((XG s.heap it _).trans (XG _ it _)).extBut;exact yO (s:=s) (it:=it) (h1:=(s.heap.update it (Obj.mapFields (·.setIfInBounds 0 (rawInt 0)))).update it (Obj.mapFields (·.setIfInBounds 2 .none))) hh k2 h
end
end LS
set_option maxHeartbeats 400000
namespace LS
open PySem PySem.Spec PyProof.Rows
theorem gW {α:Type}:∀{l:List α} {i:Nat} (h:i<l.length),(l[i]::l.eraseIdx i).Perm l
 | a::l,0,_=>.refl _
 | a::l,i+1,h=>by
  have hi:i<l.length:=by simpa using h
  have q:=gW (l:=l) (i:=i) hi;show (l[i]::a::l.eraseIdx i).Perm (a::l);exact(List.Perm.swap _ _ _).trans (q.cons a)
theorem sT {α:Type} (next:Nat->Nat):∀(fuel k:Nat) (left:List α) (out:Array α),left.length=fuel->(pickOrder.go next fuel k left out).toList.Perm (out.toList++left)
 | 0,k,left,out,h=>by
  obtain rfl:left=[]:=Xl.mp h;simp[pickOrder.go]
 | fuel+1,k,left,out,h=>by
  have lt:next k % left.length<left.length:=Nat.mod_lt _ ⋯;have e:left[next k % left.length]?=some left[next k % left.length]:=Qc lt;unfold pickOrder.go;rw[e];refine(sT next fuel (k+1) _ _ (by rw[List.length_eraseIdx_of_lt lt];omega)).trans ?_;rw[Array.toList_push,Xa];exact List.Perm.append_left _ (gW lt)
theorem iN {α:Type} (next:Nat->Nat) (xs:Array α):(pickOrder next xs).toList.Perm xs.toList:=by
 have:=sT next xs.size 0 xs.toList #[] (by simp);unfold pickOrder;simpa using this
section
variable {prog:Program} {w:World} {A:Around} {E:F1} {s:Shared} {a it:Addr} {es:Array (Int × Value)} {ep:Nat} {t:SetTable} {i:Nat}
theorem nc {src:Source} {n:Nat} {Q:Nat->Shared->Prop} (hn:n≠0) (h:∀i d,i<n->Q i { s with drawn:=d }):wpAny (model prog w) A (choose src n) Q E s:=λΓ p hΓ=>by
 show Sem.wp (model prog w) Γ (.choose src n .pure) _ _ p s;rw[Sem.wp_choose];refine{hn,?_};rw[Sem.wp_pure];exact h _ _ (Nat.mod_lt _ (Nat.pos_of_ne_zero hn))
theorem fE {α:Type}:∀(n:Nat) (xs:List α) (s:Shared) (Q:List α->Shared->Prop),xs.length=n->(∀ys d,ys.Perm xs->Q ys { s with drawn:=d })->wpAny (model prog w) A (drawOrder n xs) Q E s
 | 0,xs,s,Q,h,q=>by
  obtain rfl:xs=[]:=Xl.mp h;exact Qf (q [] s.drawn .nil)
 | n+1,[],s,Q,h,q=>by cases h
 | n+1,x::xs,s,Q,h,q=>by
  unfold drawOrder;refine Qb (nc (by simp) λi d hi=>?_);rw[Qc hi];dsimp only;refine Qb (fE n _ _ _ (by rw[List.length_eraseIdx_of_lt hi];simp at h ⊢;omega) λys d2 pm=>Qf (q _ d2 ?_));exact(List.Perm.cons _ pm).trans (gW hi)
variable {Q:Option (Value × Nat)->Shared->Prop}
theorem mG {slot:Nat} (ht:w.params.followText "set-order" = true) (hs:eQ s.heap a es ep t) (h:Q (((pickOrder (w.params.setOrder a ep) es)[i]?).map λe=>(e.2,slot)) s):wpAny (model prog w) A (setNext a slot i ep) Q E s:=by
 obtain⟨os,hos,hds,_,hf⟩:=id hs;unfold setNext setsByText;refine Qb (wpAny_setState_of hos hds hf ?_);dsimp only;refine Qb (Qb (wpAny_askSetting (Qf ?_)));rw[QL (show (Setting.params {(model prog w).prog,(model prog w).w.params}).followText "set-order" = true from ht),QI (by simp)];unfold setWalk setsByText;refine Qb (Qb (wpAny_setState_of hos hds hf ?_));dsimp only;refine Qb (Qb (wpAny_askSetting (Qf ?_)));rw[QL (show (Setting.params {(model prog w).prog,(model prog w).w.params}).followText "set-order" = true from ht)];refine Qb (wpAny_askSetting (Qf ?_));exact Qf h
theorem qj {slot:Nat} (ht:w.params.followText "set-order" = false) (hs:eQ s.heap a es ep t) (h1:es.size<=1) (hl:t.led=true)
  (h:Q (match es[SetTable.below t.place slot]?,t.place[SetTable.below t.place slot]? with|some (_,x),some j=>some (x,j+1)|_,_=>none) s):wpAny (model prog w) A (setNext a slot i ep) Q E s:=by
 obtain⟨os,hos,hds,_,hf⟩:=id hs;unfold setNext setsByText;refine Qb (wpAny_setState_of hos hds hf ?_);dsimp only;refine Qb (Qb (wpAny_askSetting (Qf ?_)));rw[QI (show ¬(Setting.params {(model prog w).prog,(model prog w).w.params}).followText "set-order" = true by rw[show (Setting.params {(model prog w).prog,(model prog w).w.params}).followText "set-order" = false from ht];exact Qn)];refine wpAny_ite_split (λhab=>?_) λ_=>?_
 ·have hab:(!t.plain&&decide (es.size>1))=true:=hab;simp at hab;omega
 refine Qb ?_;show wpAny _ _ (if (!t.led&&!es.isEmpty)=true then unsupported "set:maker-not-led" else pure ()) _ _ _;rw[QI (by rw[hl];simp)];exact Qf (Qf h)
theorem qO (hh:A.handled=none) (ht:w.params.followText "set-order" = true) (I:Addr) (ne:a≠I):Walks prog w A I [I,a] [I] es.size (λi v=>∃e,(pickOrder (w.params.setOrder a ep) es).toList[i]?=some e/\v=e.2) (λi h=>gd h I a (.int 0 0) i es.size ep/\eQ h a es ep t) where
 sub:=λb hb=>by simp at hb;simp[hb]
 frame:=λ_ _ _ st hk=>{st.1.at λo e=>hk I (by simp) o e,st.2.at λo e=>hk a (by simp) o e}
 item:=λi s Q E hi st hQ=>by
  have z:(pickOrder (w.params.setOrder a ep) es).size=es.size:=by simpa using(iN (w.params.setOrder a ep) es).length_eq
  obtain⟨e,he⟩:∃e,(pickOrder (w.params.setOrder a ep) es)[i]?=some e:={_,Q5 (by rw[z];exact hi)};refine mI (slot:=0) (next:=0) (x:=e.2) st.1 st.2 (λQ E q=>mG ht st.2 (by rw[he];exact q)) λh' hit' hs'=>?_;exact hQ _ h' s.toks {e,by rw[QA];exact he,rfl} {hit',st.2.at λo e=>hs'.extBut a o ne e} λb o hb e=>hs'.extBut b o (λh=>hb (by simp[h])) e
 done:=λs Q E st hQ=>by
  have z:(pickOrder (w.params.setOrder a ep) es).size=es.size:=by simpa using(iN (w.params.setOrder a ep) es).length_eq
  exact mJ (slot:=0) hh st.1 st.2 (λQ E q=>mG ht st.2 (by rw[Array.getElem?_eq_none (by rw[z];exact Qh _)];exact q)) λh' he'=>hQ h' s.toks λb o hb e=>he' b o (λh=>hb (by simp[h])) e
 self:=λ_ _ _ _ st hQ=>ou st.1 hQ
theorem o0 (hh:A.handled=none) (I tp:Addr) (pl:List Nat) (hp:pl.Perm (List.range es.size)) (ne:a≠I) (nt:tp≠I):Walks prog w A I [I,a,tp] [I] es.size (λi v=>∃e,(pl.filterMap λj=>es[j]?)[i]?=some e/\v=e.2)
  (λi h=>gd h I a (.ref tp) i es.size ep/\eQ h a es ep t/\h.get? tp=some { cls:=.type "tuple", data:=.seq (pl.map λ(i:Nat)=>rawInt i).toArray }) where
 sub:=λb hb=>by simp at hb;simp[hb]
 frame:=λ_ _ _ st hk=>{st.1.at λo e=>hk I (by simp) o e,st.2.1.at λo e=>hk a (by simp) o e,hk tp (by simp) _ st.2.2}
 item:=λi s Q E hi st hQ=>by
  have pz:pl.length=es.size:=by simpa using hp.length_eq
  have lt:i<pl.length:=by omega
  have all:∀j∈pl,∃e,es[j]?=some e:=λj hj=>{_,Q5 (by simpa using hp.mem_iff.mp hj)};obtain⟨e,he⟩:=all pl[i] (Xo lt)
  have fm:∀(l:List Nat) (i:Nat) (h:i<l.length),(∀j∈l,∃e,es[j]?=some e)->(l.filterMap λj=>es[j]?)[i]?=es[l[i]]?:=by
   intro l
   induction l with
   | nil=>intro i h;simp at h
   | cons x l ih =>
   intro i h al;obtain⟨e,he⟩:=al x Xj;rw[List.filterMap_cons_some he]
   cases i with
   | zero=>rw[List.getElem?_cons_zero];exact he.symm
   | succ i=>rw[List.getElem?_cons_succ];exact ih i (by simpa using h) λj hj=>al j (Qx _ hj)
  refine rZ (p:=pl[i]) st.1 st.2.1 st.2.2 (Qc lt) he λh' hit' hs'=>?_;exact hQ _ h' s.toks {e,by rw[fm pl i lt all];exact he,rfl} {hit',st.2.1.at λo e=>hs'.extBut a o ne e,hs'.extBut tp _ nt st.2.2} λb o hb e=>hs'.extBut b o (λh=>hb (by simp[h])) e
 done:=λs Q E st hQ=>by
  have pz:pl.length=es.size:=by simpa using hp.length_eq
  exact r8 hh st.1 st.2.1 st.2.2 (Xb ⋯) λh' he'=>hQ h' s.toks λb o hb e=>he' b o (λh=>hb (by simp[h])) e
 self:=λ_ _ _ _ st hQ=>ou st.1 hQ
theorem m9 (j k:Nat):SetTable.below #[j] k=if j<k then 1 else 0:=by
 unfold SetTable.below;simp[SetTable.below.go]
theorem tY (hh:A.handled=none) (ht:w.params.followText "set-order" = false) (h1:es.size<=1) (hl:t.led=true) (I:Addr) (ne:a≠I):Walks prog w A I [I,a] [I] es.size (λi v=>∃e,es.toList[i]?=some e/\v=e.2)
  (λi h=>(∃slot:Nat,gd h I a (.int slot 0) i es.size ep/\(i=0->slot=0)/\(i=1->∃j,t.place=#[j]/\slot=j+1))/\eQ h a es ep t) where
 sub:=λb hb=>by simp at hb;simp[hb]
 frame:=λ_ _ _ st hk=>let ⟨⟨sl,x,y⟩,z⟩:=st;{ {sl,x.at λo e=>hk I (by simp) o e,y},z.at λo e=>hk a (by simp) o e}
 item:=λi s Q E hi st hQ=>by
  obtain⟨⟨sl,x,y,_⟩,z⟩:=st;obtain rfl:i=0:=by omega
  obtain rfl:=y rfl;have e1:es.size=1:=by omega
  obtain⟨os,hos,hds,_,hf⟩:=id z;have pz:t.place.size=1:=by simp[SetTable.fits]at hf;omega
  obtain⟨j,hj⟩:=Array.size_eq_one_iff.mp pz;obtain⟨e,he⟩:=Array.size_eq_one_iff.mp e1;refine mI (slot:=0) (next:=j+1) (x:=e.2) x z (λQ E q=>qj ht z h1 hl (by rw[hj,m9];simp[he];exact q)) λh' hit' hs'=>?_;exact hQ _ h' s.toks {e,by rw[he];rfl,rfl} { {j+1,hit',λq=>by omega,λ_=>⟨j,hj,rfl⟩},z.at λo e=>hs'.extBut a o ne e} λb o hb e=>hs'.extBut b o (λh=>hb (by simp[h])) e
 done:=λs Q E st hQ=>by
  obtain⟨⟨sl,x,y1,y2⟩,z⟩:=st;refine mJ hh x z (λQ E q=>qj ht z h1 hl ?_) λh' he'=>hQ h' s.toks λb o hb e=>he' b o (λh=>hb (by simp[h])) e;by_cases e1:es.size=1
  ·obtain⟨j,hj,rfl⟩:=y2 e1;rw[hj,m9];simpa[e1] using q
  have e0:es=#[]:=by simpa using(show es.size=0 by omega)
  subst e0;simpa using q
 self:=λ_ _ _ _ st hQ=>ou st.1.choose_spec.1 hQ
end
end LS
set_option maxHeartbeats 4000000
namespace LS
open PySem PySem.Spec PyProof.Rows
def met (g:Nat->Str):Nat->List Str
 | 0=>[]
 | i+1=>if g i∈met g i then met g i else met g i++[g i]
theorem wx (g:Nat->Str):∀i,(met g i).length<=i
 | 0=>Qh _
 | i+1=>by
  have q:=wx g i;show (if g i∈met g i then met g i else met g i++[g i]).length<=i+1
  split
  ·omega
  simp;omega
theorem oj (g:Nat->Str) (x:Str):∀i,x∈met g i↔∃j,j<i/\g j=x
 | 0=>by simp[met]
 | i+1=>by
  have q:=oj g x i
  have e:x∈met g (i+1)↔x∈met g i\/x=g i:=by
   show x∈(if g i∈met g i then met g i else met g i++[g i])↔_;by_cases h:g i∈met g i
   ·rw[QL h];exact{.inl,λz=>z.elim id λz=>z▸h}
   rw[QI h];simp
  rw[e,q]
  constructor
  ·rintro(⟨j,a,b⟩|a)
   ·exact{j,⋯,b}
   exact{i,⋯,a.symm}
  rintro⟨j,a,b⟩;rcases Nat.lt_succ_iff_lt_or_eq.mp a with c|c
  ·exact .inl ⟨j,c,b⟩
  subst c;exact .inr b.symm
section
variable {prog:Program} {w:World} {A:Around} {R:Result->Shared->Prop} {I S:Addr} {fp wr:F4} {G:Array GenState->Array GenState->Prop} {n:Nat} {P:Nat->Value->Prop} {St:Nat->Shared->Prop}
abbrev jh (prog:Program) (w:World) (h:Heap) (S:Addr) (g:Nat->Str) (i:Nat):Prop:=cM prog w h S (λx=>decide (x∈met g i)) (met g i).length
theorem jh.at {h h':Heap} {g:Nat->Str} {i:Nat} (q:jh prog w h S g i) (k:∀o,h.get? S=some o->h'.get? S=some o):jh prog w h' S g i:=by
 obtain⟨o,es,ep,t,e,r⟩:=q;exact{o,es,ep,t,k _ e,r}
theorem vE (W:WalksS prog w A.in1 I fp wr G n P St) (nS:S∉fp) (g:Nat->Str) (hg:∀i v,P i v->∃t,v=.str (g i) t) (hb:∀i,i<n->(met g i).length+1<scanBound) :
  ∀(m i:Nat) (s:Shared),n-i=m->i<=n->St i s->jh prog w s.heap S g i->(∀s',Moved (S::wr) G s s'->jh prog w s'.heap S g n->R (.ok (.ret .none)) s') ->
   codeAny (model prog w) A (.builtin "set.update.loop" {[.ref S,.ref I],[]}) R s:=by
 have nW:S∉wr:=λz=>nS (W.sub _ z);have more:∀b∈wr,b∈S::wr:=λb z=>Qx _ z;intro m
 induction m with
 | zero =>
  intro i s em hi st q fin;obtain rfl:i=n:=by omega
  refine Xs F.entry_set_update_loop ?_;rw[Xg F.plain_set_update_loop _];show wpAny _ A.in1 (pyNext (.ref I) >>= _) _ _ s;exact Qb (W.done s _ _ st λs1 mv=>Qf (fin s1 (mv.mono more) (q.at λo e=>mv.heap S _ nW e)))
 | succ m ih =>
 intro i s em hi st q fin;have lt:i<n:=by omega
 refine Xs F.entry_set_update_loop ?_;rw[Xg F.plain_set_update_loop _];show wpAny _ A.in1 (pyNext (.ref I) >>= _) _ _ s;refine Qb (W.item i s _ _ lt st λv s1 hP st1 mv=>?_);obtain⟨t,rfl⟩:=hg i v hP;have q1:=q.at λo e=>mv.heap S _ nW e;show wpAny _ A.in1 (holding [Value.str (g i) t] (setAdd S (.str (g i) t)) >>= _) _ _ s1;refine Qb (Q2 ?_);unfold setAdd;refine Q2 (Qb ((strKind prog w).pyHash (k:=g i) (strKind_is _ _ _ _) ?_));have room:=hb i lt;refine yA (s:={ s1 with toks:=s1.toks+1 }) q1 room λh2 _ sb q2=>?_
 have q3:jh prog w h2 S g (i+1):=by
  refine cM.congr q2 (λx=>?_) ?_
  ·show (decide (x∈met g i) || decide (x=g i))=decide (x∈(if g i∈met g i then met g i else met g i++[g i]));by_cases z:g i∈met g i
   ·rw[QL z];by_cases y:x=g i
    ·subst y;simp[z]
    simp[y]
   rw[QI z];simp
  show (if decide (g i∈met g i)=true then _ else _)=(if g i∈met g i then met g i else met g i++[g i]).length;by_cases z:g i∈met g i
  ·simp[z]
  simp[z]
 refine Qf {plainId_quiet F.plain_set_update_loop _,ih (i+1) _ ⋯ lt (W.frame _ s1 _ _ st1 (Nat.le_succ _) λb z o e=>?_) q3 λs3 mv3 q4=>?_}
 ·rw[sb.2 b (λy:b=S=>nS (by rw[<-y];exact z))];exact e
 refine fin s3 (Moved.trans W.gtrans ((mv.mono more).then_heap (Nat.le_succ _) λb o z e=>?_) mv3) q4;rw[sb.2 b (λy:b=S=>z (by rw[y];exact Xj))];exact e
end
section
variable {prog:Program} {w:World} {A:Around} {E:F1} {s:Shared}
theorem oE {l:Addr} {its:Array Value} {g:Nat->Str} {Q:F1} (hh:A.handled=none) (hl:s.heap.IsList l its) (hi:∀(i:Nat) (v:Value),its[i]?=some v->∃t,v=.str (g i) t) (hb:∀i,i<its.size->(met g i).length+1<scanBound)
  (h:∀(h1:Heap) (tk:Nat),jh prog w h1 s.heap.objs.size g its.size->(∀b o,s.heap.get? b=some o->h1.get? b=some o)->Q (.ref s.heap.objs.size) { s with heap:=h1,toks:=tk }) :
  wpAny (model prog w) A (call (.type "set") [.ref l]) Q E s:=by
 obtain⟨cl,tl,mro⟩:=F.called_set.mro;have y1:=F.called_set.made;have y2:=F.called_set.sub;refine wpAny_call (codeAny_of_tree ?_);show wpAny _ _ (callAny (.type "set") {[.ref l],[]}) _ _ _;refine Qf {Code.quiet_builtin _ (by decide +kernel),Xs F.entry_type_call ?_};rw[Around.under_plain (weight_type_call_type "set" [.ref l] []) rfl];have y3:=F.called_set.notType;have y4:=F.called_set.canCreate;have y5:=F.typeCall_set_1 (.ref l)
 repeat (any_goals (first|assumption|wp_step))
 refine codeAny_mono (w_ (.ref l) (E:=E) (Q₁:=λv s1=>∃led:Bool,led=!(w.params.followText "set-order")/\v=.ref s.heap.objs.size/\s1={ s with heap:=s.heap.push (bare led) }) ⟨_,rfl,rfl,rfl⟩) λr s1 hr=>?_
 cases r with
 | error e=>exact hr
 | ok fl =>
 cases fl with
 | ret obj =>
  obtain⟨led,hled,rfl,rfl⟩:=hr;have hS:(s.heap.push (bare led)).get? s.heap.objs.size=some (bare led):=Qq _ rfl;have hT:Shared.TypeIs { s with heap:=s.heap.push (bare led) } (.ref s.heap.objs.size) "set" := ⟨_,hS,rfl⟩;have y6:=F.called_set.init.lookup;have y7:=F.called_set.init.bind (.ref s.heap.objs.size)
  repeat (any_goals (first|assumption|wp_step))
  refine codeAny_mono (codeAny_call_builtin (R:=wants (λv s2=>v=.none/\∃h1 tk,s2={ s with heap:=h1,toks:=tk }/\jh prog w h1 s.heap.objs.size g its.size/\∀b o,s.heap.get? b=some o->h1.get? b=some o) E) F.called_set.init.plain F.entry_set_init (check_set_init_1 hT ?_)) λr2 s2 hr2=>?_
  ·obtain⟨ol,hol,hcl,nl,hdl⟩:=hl;obtain⟨ocls,odict,odata,oslots⟩:=ol;simp only at hcl hdl;subst hcl;subst hdl;have hol1:(s.heap.push (bare led)).get? l=some { cls:=.type "list", dict:=odict,data:=.seq its nl,slots:=oslots }:=Qd _ hol;have y8:=F.sub_list_set;have y9:=F.sub_list_frozenset;have y0:(Value.type "list" == Value.type "dict")=false:=by decide
   have hl1:(s.heap.push (bare led)).IsList l its:=⟨_,hol1,rfl,nl,rfl⟩;unfold Builtin.«set.__init__» noKeywords Builtin.Frozenset.updateFrom;generalize hPI:pyIter=PI
   wp_walk
   subst hPI;refine wpAny_pyIter_list hl1 ?_;refine Qb (wpAny_runValue ?_);have lS:l<s.heap.objs.size:=Ql hol
   have nI:l≠(s.heap.push (bare led)).objs.size:=by
    rw[Xd];exact Qz (Nat.lt_succ_of_lt lS)
   have nF:s.heap.objs.size∉[(s.heap.push (bare led)).objs.size,l]:=by
    rw[Xd];simp only[QO,Qr,List.not_mem_nil,or_false,not_or];exact{Qz (Nat.lt_succ_self _),XE lS}
   refine vE ((Walks.list (show A.in1.in1.in1.handled=none by simp[hh]) _ l nI its).toS) nF g hi hb (its.size-0) 0 _ ⋯ (QG _) { {_,Qq _ rfl,rfl,rfl},(hl1.push _)} ?_ λs3 mv q=>?_
   ·have e:((s.heap.push (bare led)).push { cls:=.type "list_iterator", data:=.fields #[.ref l,.int 0 0] }).get? s.heap.objs.size=some (bare led):=Qd _ hS;exact cM.congr (cM.bare (by rw[e,hled])) (λ_=>by simp[met]) rfl
   obtain⟨h3,g3,d3,tk3,os3⟩:=s3;obtain rfl:g3=s.gens:=mv.gens;obtain rfl:d3=s.drawn:=mv.drawn;obtain rfl:os3=s.os:=mv.os;show wpAny _ _ _ _ _ _;refine Qf ?_;show wpAny _ _ (ret Value.none) _ _ _;refine Qf {rfl,h3,tk3,rfl,q,λb o e=>?_};have lb:=Ql e;have z1:b≠s.heap.objs.size:=Qz lb
   have z2:b≠(s.heap.push (bare led)).objs.size:=by
    rw[Xd];exact Qz (Nat.lt_succ_of_lt lb)
   exact mv.heap b o (by simp only[QO,Qr,List.not_mem_nil,or_false,not_or];exact⟨z1,z2⟩) (Qd _ (Qd _ e))
  cases r2 with
  | error e=>exact hr2
  | ok fl2 =>
  cases fl2 with
  | ret r =>
   obtain⟨rfl,h1,tk,rfl,q,k⟩:=hr2
   repeat (any_goals (first|assumption|wp_step))
   exact h _ _ q k
  | _=>exact hr2.elim
 | _=>exact hr.elim
end
end LS
namespace L2
open PySem PySem.Spec PyProof.Rows
def uniq (ts:List Str):Nat:=(LS.met (λi=>ts.getD i Str.empty) ts.length).length
section
variable {X:Cx} {a:Expr} {ta:TA} {p p1 pos pos1:Pos}
end
end L2
namespace LS
open PySem
end LS
namespace L2
open PySem
end L2
set_option maxHeartbeats 400000
namespace LS
open PySem PySem.Spec PyProof.Rows PySem.Calls
theorem vn {prog:Program} {w:World} {k:Str} {v:Value} (h:(PySem.strKind prog w).is k v=true):∃t,v=.str k t:=by
 cases v <;> simp[PySem.strKind,Value.isStrOf]at h;exact{_,by rw[h]}
section
variable {prog:Program} {w:World} {A:Around} {E:F1} {s:Shared} {a:Addr} {S:Str->Bool} {n:Nat}
structure Ord (S:Str->Bool) (n:Nat) (od:List (Int × Value)):Prop where
 len:od.length=n
 txt:∀e∈od,∃x t,e.2=.str x t
 mem:∀x,S x=true↔∃e∈od,∃t,e.2=.str x t
variable {Q:F1}
theorem vF (hh:A.handled=none) (q:cM prog w s.heap a S n)
  (h:∀h' d I od fp St,Ord S n od->(∀b o,s.heap.get? b=some o->h'.get? b=some o)->s.heap.objs.size<=I->(∀b∈fp,b=a\/s.heap.objs.size<=b)->Walks prog w A I fp [I] n (λi v=>∃e,od[i]?=some e/\v=e.2) St->St 0 h'->Q (.ref I) { s with heap:=h',drawn:=d }) :
  wpAny (model prog w) A (pyIter (.ref a)) Q E s:=by
 obtain⟨o,es,ep,t,ho,hex,hd,hel,hm,hb,hf,hn,hl⟩:=q;have hT:s.TypeIs (.ref a) "set" := ⟨o,ho,hex.1⟩
 have od:∀l:List (Int × Value),l.Perm es.toList->Ord S n l:=λl p=>{by rw[p.length_eq,Qs];exact hn,λe he=>by
   obtain⟨⟨k,hk,_⟩,_⟩:=hel e (p.mem_iff.mp he);obtain⟨t,ht⟩:=vn hk
   exact⟨k,t,ht⟩,λx=>(hm x).trans {λ⟨e,he,z⟩=>{e,p.mem_iff.mpr he,vn z},λ⟨e,he,t,z⟩=>{e,p.mem_iff.mp he,by rw[z];exact strKind_is _ _ _ _} } }
 have hlt:=Ql ho;subst hn;refine wpAny_pyIter_slot hT F.slot_set_iter (XF F.slot_set_iter hT kT ?_ (F.args_set_iter_1 _));unfold Builtin.«frozenset.__iter__» Builtin.Frozenset.slot0 slotArgs;simp only[List.isEmpty_nil,Bool.not_true,QU,↓reduceIte,bind_assoc,List.length_nil,bne_self_eq_false];unfold Builtin.Frozenset.addrOf Builtin.Frozenset.sizeOf;refine Qb (Qf ?_)
 try dsimp only
 refine Qb (Qf ?_);refine Qb (Qb (wpAny_setEntries_of ho hd hf (Qf ?_)));unfold setDrawn setsByText;refine Qb (Qb (wpAny_setState_of ho hd hf ?_));dsimp only;refine Qb (Qb (wpAny_askSetting (Qf ?_)));show wpAny _ _ (pure (!(w.params.followText "set-order")&&(!t.plain&&decide (es.size>1)))) _ _ _;refine Qf ?_;have hs0:eQ s.heap a es ep t:=⟨o,ho,hd,hex.1,hf⟩
 have plainway:∀(oI:Obj),oI={ cls:=.type "set_iterator", data:=.fields #[.int 0 0,.int 0 0,.ref a,.int es.size 0,.int ep 0] }->gd (s.heap.push oI) s.heap.objs.size a (.int ((0:Nat):Int) 0) 0 es.size ep/\eQ (s.heap.push oI) a es ep t:=λoI e=>by
  subst e;exact{ {_,Qq _ rfl,rfl,rfl},hs0.at λo e=>Qd _ e}
 refine wpAny_ite_split (λhab=>?_) λhab=>?_
 ·simp only[Xm,Bool.not_eq_true',decide_eq_true_eq]at hab;refine Qb (fE es.size (List.range es.size) s _ (by simp) λpl d pm=>?_);refine Qb (wpAny_newTuple ?_ (by rw[Qa,pm.length_eq,List.length_range];exact fits_of_scanBound hb));unfold setEpoch;have ho1:(s.heap.push { cls:=.type "tuple", data:=.seq (pl.map λ(i:Nat)=>rawInt i).toArray }).get? a=some o:=Qd _ ho;refine Qb (Qb (wpAny_setState_of (s:={ s with heap:=s.heap.push { cls:=.type "tuple", data:=.seq (pl.map λ(i:Nat)=>rawInt i).toArray },drawn:=d }) ho1 hd hf (Qf ?_)));unfold newFields;refine Qb (wpAny_newObj_type ?_ (by size_fits));refine Qf {_,rfl, "set_iterator", _,{_,Qq _ rfl,rfl},c8.lookup,?_};have ne:a≠(s.heap.push { cls:=.type "tuple", data:=.seq (pl.map λ(i:Nat)=>rawInt i).toArray }).objs.size:=by rw[Xd];exact Qz (Nat.lt_succ_of_lt hlt)
  have nt:s.heap.objs.size≠(s.heap.push { cls:=.type "tuple", data:=.seq (pl.map λ(i:Nat)=>rawInt i).toArray }).objs.size:=by rw[Xd];exact Qz (Nat.lt_succ_self _)
  refine h _ _ _ (pl.filterMap λj=>es[j]?) _ _ (od _ ((pm.filterMap _).trans (by rw[filterMap_getElem?_range]))) (λb o e=>Qd _ (Qd _ e)) (by rw[Xd];exact Nat.le_succ _) (λb hb=>?_) (o0 (ep:=ep) (t:=t) hh _ _ pl pm ne nt) ?_
  ·simp only[QO,List.not_mem_nil,or_false]at hb;rcases hb with rfl|rfl|rfl
   ·exact .inr (by rw[Xd];exact Nat.le_succ _)
   ·exact .inl rfl
   exact .inr (Qh _)
  exact{ {_,Qq _ rfl,rfl,rfl},hs0.at λo e=>Qd _ (Qd _ e),Qd _ (Qq _ rfl)}
 refine Qb (Qf ?_);unfold setEpoch;refine Qb (Qb (wpAny_setState_of ho hd hf (Qf ?_)));unfold newFields;refine Qb (wpAny_newObj_type ?_ (by size_fits));refine Qf {_,rfl, "set_iterator", _,{_,Qq _ rfl,rfl},c8.lookup,?_};obtain⟨i0,s0⟩:=plainway _ rfl;have ne:a≠s.heap.objs.size:=Qz hlt
 have fpok:∀b∈[s.heap.objs.size,a],b=a\/s.heap.objs.size<=b:=λb hb=>by
  simp only[QO,List.not_mem_nil,or_false]at hb;rcases hb with rfl|rfl
  ·exact .inr (Qh _)
  exact .inl rfl
 cases ht:w.params.followText "set-order" with
 | true=>exact h _ s.drawn _ _ _ _ (od _ (iN (w.params.setOrder a ep) es)) (λb o e=>Qd _ e) (Qh _) fpok (qO (ep:=ep) (t:=t) hh ht _ ne) ⟨i0,s0⟩
 | false =>
 rcases hl with z|⟨z1,z2⟩
 ·rw[ht]at z;cases z
 have h1:es.size<=1:=by
  rw[ht]at hab;by_cases e0:es.size=0
  ·omega
  rw[z2 e0]at hab;simp at hab;omega
 exact h _ s.drawn _ _ _ _ (od _ (.refl _)) (λb o e=>Qd _ e) (Qh _) fpok (tY (ep:=ep) hh ht h1 z1 _ ne) { {0,i0,λ_=>rfl,λz=>by cases z},s0}
theorem wK {r:Addr} {Q:Bool->Shared->Prop} (hT:s.TypeIs (.ref r) "set") (h:Q false s):wpAny (model prog w) A (Builtin.List.listLengthHint (.ref r)) Q E s:=by
 unfold Builtin.List.listLengthHint;refine Qb (wpAny_specialOf hT PySem.F.slot_set_len.lookup ?_);generalize hid:("set.__len__" : String)=id0
 wp_delta
 rw[show splitId id0=some ("set", "__len__") from by subst hid;decide +kernel];subst hid;refine Qb (wpAny_isInstance (T := "set") (b:=true) hT (by rw[isSubtype_type];kernel_rfl) ?_);refine wpAny_ite_split (λhab=>absurd hab (by decide)) (λ_=>?_);refine wpAny_ite_split (λ_=>?_) (λhab=>absurd (by decide +kernel) hab);refine Qb (wpAny_typeOf hT ?_);exact Qf h
theorem qG {R:List Value->Shared->Prop} (hh:A.handled=none) (q:cM prog w s.heap a S n)
  (h:∀g tk d od,Ord S n od->(∀b o,s.heap.get? b=some o->g.get? b=some o)->s.heap.objs.size<=g.objs.size->R (od.map (·.2)) { s with heap:=g,toks:=tk,drawn:=d }):wpAny (model prog w) A (collect (.ref a)) R E s:=by
 obtain⟨o,es,ep,t,ho,hex,hd,hel,hm,hb,hf,hn,hl⟩:=id q;have hlt:=Ql ho;have nz:n<=sizeLine:=fits_of_scanBound (by rw[<-hn];exact hb);unfold collect;refine Qb (wpAny_runValue (Xs entry_proto_collect' ?_));rw[Xg PySem.F.plain_proto_collect _];refine Qb (wpAny_newObj_type (Qf {plainId_quiet PySem.F.plain_list_iadd _,Xs entry_list_iadd' ?_}));rw[Xg PySem.F.plain_list_iadd _];show wpAny _ _ (Builtin.List.listExtendWith (.ref s.heap.objs.size) (.ref a) (.ref s.heap.objs.size)) _ _ { s with heap:=s.heap.push { cls:=.type "list", data:=.seq ([]:List Value).toArray } };generalize hL:({ cls:=.type "list", data:=.seq ([]:List Value).toArray }:Obj)=L;have ho1:(s.heap.push L).get? a=some o:=Qd _ ho;have q1:cM prog w (s.heap.push L) a S n:=⟨o,es,ep,t,ho1,hex,hd,hel,hm,hb,hf,hn,hl⟩;have hS:(s.heap.push L).get? s.heap.objs.size=some L:=Qq _ (by rw[<-hL];rfl);have nS:s.heap.objs.size≠a:=XE hlt;unfold Builtin.List.listExtendWith;refine Qb (wpAny_typeOf (T := "set") (s:={ s with heap:=s.heap.push L }) ⟨o,ho1,hex.1⟩ ?_);have h1:Builtin.List.listSameRef (.ref s.heap.objs.size) (.ref a)=false:=by simp[Builtin.List.listSameRef,nS]
 have h2:(Value.type "set" == Value.type "list")=false:=by decide
 have h3:(Value.type "set" == Value.type "tuple")=false:=by decide
 simp only[h1,h2,h3,Bool.or_false,QU,if_false];refine Qb (vF (A:=A.in1) (s:={ s with heap:=s.heap.push L }) hh q1 λh' d I od fp St om k hI hfp W st=>?_);have k':∀b o,s.heap.get? b=some o->h'.get? b=some o:=λb o e=>k b o (Qd _ e);have szL:(s.heap.push L).objs.size=s.heap.objs.size+1:=Xd ..;have nI:s.heap.objs.size≠I:=by have:=hI;simp only[szL]at this;omega
 have hI':s.heap.objs.size<=I:=by simp only[szL]at hI;omega
 have nF:s.heap.objs.size∉fp:=λz=>by
  rcases hfp _ z with y|y
  ·exact nS y
  simp only[szL]at y;omega
 have hS1:h'.get? s.heap.objs.size=some L:=k _ _ hS;refine Qb (Q2 (wK (s:={ s with heap:=h',drawn:=d }) {o,k' a o ho,hex.1} ?_))
 have key:∀(g:Heap) (c₁ tk:Nat),St 0 g->(∀b o,b≠s.heap.objs.size->h'.get? b=some o->g.get? b=some o)->g.get? s.heap.objs.size=some { cls:=.type "list", data:=.seq #[] c₁ } ->
   codeAny (model prog w) A (.builtin "list.extend.loop" {[.ref s.heap.objs.size,.ref I,.ref s.heap.objs.size],[]}) (λr s'=>∃(g:Heap) (tk:Nat) (acc:Array Value) (c:Nat),r=.ok (.ret (.ref s.heap.objs.size))/\s'={ s with heap:=g,toks:=tk,drawn:=d } /\
   (∀b o,s.heap.get? b=some o->g.get? b=some o)/\g.get? s.heap.objs.size=some { cls:=.type "list", dict:=none,data:=.seq acc c,slots:=#[] }/\PySem.ItemsOf (λi v=>∃e,od[i]?=some e/\v=e.2) acc n) { s with heap:=g,toks:=tk,drawn:=d }:=by
  intro g c₁ tk hst hk hS₁;refine codeAny_extend_loopS W.toS nz _ nF _ n 0 _ #[] c₁ rfl (QG _) hst hS₁ (ItemsOf.nil _) λs' acc' c' hm hS' hacc=>?_;rw[Moved.eq_with hm];refine{s'.heap,s'.toks,acc',c',rfl,rfl,λb o e=>hm.heap b o (λhmem=>?_) (hk b o (Qz (Ql e)) (k' b o e)),hS',hacc};rcases QO.mp hmem with e'|hmem
  ·exact absurd (Ql e) (by rw[e'];exact Nat.lt_irrefl _)
  exact absurd (Ql e) (by rw[Qr.mp hmem];exact Nat.not_lt.mpr hI')
 have all:∀(acc:Array Value),PySem.ItemsOf (λi v=>∃e,od[i]?=some e/\v=e.2) acc n->acc.toList=od.map (·.2):=λacc ⟨z1,z2⟩=>by
  refine List.ext_getElem? λi=>?_;rw[QA,Qi];by_cases hi:i<n
  ·obtain⟨e,e1,e2⟩:=z2 i acc[i] (Q5 ⋯);rw[Q5 ⋯,e1,e2];rfl
  rw[Array.getElem?_eq_none ⋯,Xb (by rw[om.len];omega)];rfl
 subst hL;refine wpAny_ite_split (λ_=>?_) (λ_=>Qf {plainId_quiet PySem.F.plain_extend_loop _,codeAny_mono (key h' 0 s.toks st (λb o _ e=>e) hS1) λr s' y=>?_})
 ·refine Qb (XR ?_);refine Qb ?_;show wpAny _ _ (updateSeq s.heap.objs.size (·.push .none) >>= λ_=>updateSeq s.heap.objs.size (·.pop)) _ _ _;refine Qb (wpAny_updateSeq hS1 rfl ?_);have hS2:=XM (Obj.mapSeq (·.push Value.none)) hS1 rfl;refine wpAny_updateSeq (hz:=by seq_fits) hS2 rfl ?_;have hS3:=XM (Obj.mapSeq (·.pop)) hS2 rfl;refine Qf {plainId_quiet PySem.F.plain_extend_loop _,codeAny_mono (key _ _ s.toks ?_ (λb o hb e=>?_) hS3) λr s' y=>?_}
  ·refine W.frame 0 _ _ st λb hb o e=>?_;have hbS:b≠s.heap.objs.size:=λh=>nF (h▸hb);exact(Q3 _ _ (XH hbS)).trans ((Q3 _ _ (XH hbS)).trans e)
  ·exact(Q3 _ _ (XH hb)).trans ((Q3 _ _ (XH hb)).trans e)
  obtain⟨g,tk,acc,c,rfl,rfl,kk,at',it⟩:=y;exact Qb (wpAny_load at' (Qf (by rw[all acc it];exact h g tk d od om kk (Xy (Ql at')))))
 obtain⟨g,tk,acc,c,rfl,rfl,kk,at',it⟩:=y;exact Qb (wpAny_load at' (Qf (by rw[all acc it];exact h g tk d od om kk (Xy (Ql at')))))
theorem i7:∀(as bs:List Str),as.Nodup->(∀x∈as,x∈bs)->bs.length<=as.length->as.Perm bs
 | [],bs,_,_,h=>by
  obtain rfl:bs=[]:=Xl.mp (by simpa using h);exact .nil
 | a::as,bs,nd,h,z=>by
  obtain⟨n1,n2⟩:=Q4.mp nd;have ha:=h a Xj;have p:=List.perm_cons_erase ha;have q:=i7 as (bs.erase a) n2 (λx hx=>(List.mem_erase_of_ne λ(e:x=a)=>n1 (e▸hx)).mpr (h x (Qx _ hx))) (by rw[List.length_erase_of_mem ha];simp at z;omega);exact(q.cons a).trans p.symm
theorem qX {ts:List Str} (hh:A.handled=none) (nd:ts.Nodup) (q:cM prog w s.heap a (λx=>decide (x∈ts)) ts.length)
  (h:∀D h' tk d (out:Array Value) m ss,(∀b o,s.heap.get? b=some o->h'.get? b=some o)->s.heap.objs.size<=D->h'.get? D=some (seqObj "list" out m)->StrsAre out.toList ss->ss.Perm ts->ss.Pairwise L2.leT->Q (.ref D) { s with heap:=h',toks:=tk,drawn:=d }) :
  wpAny (model prog w) A (call (.builtin "sorted") [.ref a]) Q E s:=by
 obtain⟨_,es,_,_,_,_,_,_,_,hb,_,hn,_⟩:=id q;refine Calls.call_function_entry kind_sorted plain_sorted entry_sorted (args_sorted1 _) ?_;unfold Builtin.«sorted»;refine Qb (m:=checkCount "sorted" 1 1 _) (Qf ?_);refine Qb (qG (A:=A.in1) hh q λh1 tk d od om k1 z1=>?_);have len:(od.map (·.2)).length=ts.length:=by rw[Qa,om.len]
 have len':(od.map (·.2)).length<=100000:=by unfold scanBound at hb;omega
 have alls:∀v∈od.map (·.2),∃x t,v=.str x t:=λv hv=>by
  obtain⟨e,he,rfl⟩:=Qj.mp hv;exact om.txt e he
 have sa:=strsAre_map _ alls
 have pm:((od.map (·.2)).map strOf).Perm ts:=(i7 ts _ nd (λx hx=>by
  obtain⟨e,he,t,z⟩:=(om.mem x).mp (by simpa using hx)
  exact Qj.mpr {e.2,Qj.mpr ⟨e,he,rfl⟩,by rw[z];rfl}) (by rw[Qa,len];exact Qh _)).symm
 generalize hv:od.map (·.2)=vs at len len' alls sa pm ⊢;refine Qb (wpAny_newList ?_ (by rw[Xx];omega));have hoL:(h1.push (seqObj "list" vs.toArray 0)).get? h1.objs.size=some (seqObj "list" vs.toArray 0):=Qq _ rfl;refine Qb (Q2 (XF (s:={ s with heap:=h1.push (seqObj "list" vs.toArray 0),toks:=tk,drawn:=d }) slot_list_sort ⟨_,hoL,rfl⟩ entry_list_sort (Tm.kM hoL (Tm.k_ sa) len' λout p1 p2=>{_,rfl,?_}) (args_list_sort _)));obtain⟨m,at'⟩:=Tm.gz (vs:=vs) (out:=out) hoL;obtain⟨ss,so,pm2,st⟩:=L2.jQ sa p1 p2;exact Qf {_,rfl,h _ _ _ _ out m ss (λb o e=>Tm.fN (Qz (QK (Ql e) z1)) (Qd _ (k1 b o e))) z1 at' so (pm2.trans pm) st}
end
theorem iP (g:Nat->Str):∀i,(met g i).Nodup
 | 0=>List.nodup_nil
 | i+1=>by
  have q:=iP g i;show (if g i∈met g i then met g i else met g i++[g i]).Nodup
  split
  ·exact q
  rename_i h
  exact Xz.mpr {q,by simp,λx hx y hy e=>h (by simp at hy;rw[<-hy,<-e];exact hx)}
end LS
namespace L2
open PySem PySem.Spec PyProof.Rows
theorem Inv.drawn {X:Cx} {pins:F2} {U:List (Option V)} {H:Hp} {s:Shared} (I:Inv X pins U H s) (d:Drawn):Inv X pins U H { s with drawn:=d }:=⟨I.ok,I.os,I.bare,I.base,I.loc,I.cell,I.free,I.freeC,I.pin,I.hok,I.len⟩
section
variable {X:Cx} {a:Expr} {ta:TA} {p p1 pos pos1:Pos}
def yC (ts ss:List Str):Prop:=ss.Nodup/\(∀x,x∈ss↔x∈ts)/\ss.Pairwise leT
def t7 (K:PySem.W.Frag) (ta:TA):TE:=λU H Q=>ta U H λvs H1=>∃l ts,vs=[.ref l]/\SqL K H1 l (ts.map V.str)/\ts.length<=100000/\(∀us:List Str,us.Nodup->(∀x∈us,x∈ts)->us.length<4000)/\∀(p:Addr) (ss:List Str),H1 p=none->yC ts ss->Q (.ref p) (upd H1 p (.lst (ss.map V.str)))
def ph (K:PySem.W.Frag) (ta:TA):TE:=λU H Q=>ta U H λvs H1=>∃l ts,vs=[.ref l]/\SqL K H1 l (ts.map V.str)/\ts.length<4000/\∀(p:Addr) (ss:List Str),H1 p=none->yC ts ss->Q (.ref p) (upd H1 p (.lst (ss.map V.str)))
theorem zI:∀(us ts:List Str),us.Nodup->(∀x∈us,x∈ts)->us.length<=ts.length
 | [],_,_,_=>QG _
 | x::us,ts,nd,h=>by
  have hx:=h x (by simp);have:=zI us (ts.erase x) (Q4.mp nd).2 λy hy=>(List.mem_erase_of_ne λe:y=x=>(Q4.mp nd).1 (by rw[<-e];exact hy)).mpr (h y (Qx _ hy));rw[List.length_erase_of_mem hx]at this;have:=List.length_pos_of_mem hx;simp only[QS];omega
theorem pY (hc:X.calm=true) (hg:Gl X "sorted") (hm:X.mg "sorted" = none) (hg1:Gl X "set") (hm1:X.mg "set" = none) (ha:PA X [a] ta) (hs:starEach [a] X.env=[(false,eval a X.env)]:=by rfl)
  (he:starEach [.Call (.Name "set" p1) [a] [] pos1] X.env=[(false,eval (.Call (.Name "set" p1) [a] [] pos1) X.env)]:=by rfl) :
  PE X (.Call (.Name "sorted" p) [.Call (.Name "set" p1) [a] [] pos1] [] pos) (t7 X.K ta):=by
 intro pins s U H Q I h;refine wpAny_Call_Name_kw (dR I hg hm Xq ?_);refine PyProof.Rows.callWith_builtin1 ?_ he rfl;rw[he];show wpAny _ _ (spliced ((false,eval (.Call (.Name "set" p1) [a] [] pos1) X.env)::backTo pos [])) _ _ s;refine Calls.spliced_cons ?_;refine Call_ (dR I hg1 hm1 PyProof.Rows.boot_set (Xe (thn (ha pos1 pins s U H _ I h) λus s1 z=>?_) hs rfl));obtain⟨vs,H1,I1,r1,l,ts,e,hl,hsm,hfw,q⟩:=z;subst e;obtain⟨u1,e,ru1⟩:=d_ r1;subst e;cases ru1;obtain⟨its,rv,pl,_⟩:=I1.list hl;have hlen:its.length=ts.length:=by rw[<-rv.length,Qa]
 refine LS.oE (its:=its.toArray) (g:=λi=>ts.getD i Str.empty) (I1.ok.hd hc) pl.isList (λi v hv=>?_) (λi hi=>?_) λh3 tk q3 kept=>?_
 ·have hv':its[i]?=some v:=by simpa using hv
  have hi:i<ts.length:=by
   have:=(Qe.mp hv').1;omega
  have e1:(ts.map V.str)[i]?=some (.str (ts.getD i Str.empty)):=by
   rw[Qi,Qc hi,QQ,Qc hi];rfl
  obtain⟨u,hu,ru⟩:=rv.get e1;rw[hv']at hu;cases hu;obtain⟨t,e2⟩:=ru;exact⟨t,e2⟩
 ·rw[Qm,hlen]at hi
  have:=hfw _ (LS.iP (λi=>ts.getD i Str.empty) i) λx hx=>by
   obtain⟨j,hj,e⟩:=(LS.oj _ x i).mp hx;rw[<-e,QQ,Qc (show j<ts.length by omega)];exact Xo _
  unfold scanBound;omega
 refine Calls.spliced_nil ?_;have hz:its.toArray.size=ts.length:=by rw[Qm];exact hlen
 rw[hz]at q3
 have mm:∀x,x∈LS.met (λi=>ts.getD i Str.empty) ts.length↔x∈ts:=λx=>by
  rw[LS.oj]
  constructor
  ·rintro⟨j,hj,rfl⟩;rw[QQ,Qc hj];exact Xo hj
  intro hx;obtain⟨j,hj,e⟩:=List.getElem_of_mem hx;exact{j,hj,by rw[QQ,Qc hj];exact e}
 have nd:=LS.iP (λi=>ts.getD i Str.empty) ts.length;have ml:=LS.wx (λi=>ts.getD i Str.empty) ts.length;have q3:LS.cM X.prog X.w h3 s1.heap.objs.size (λx=>decide (x∈LS.met (λi=>ts.getD i Str.empty) ts.length)) (LS.met (λi=>ts.getD i Str.empty) ts.length).length:=q3;generalize LS.met (λi=>ts.getD i Str.empty) ts.length=us at q3 mm nd ml;have I2:=I1.kept (t':=tk) kept;refine LS.qX (s:={ s1 with heap:=h3,toks:=tk }) (I1.ok.hd hc) nd q3 λD h' tk2 d out m ss k2 hD at' so pm st=>?_;have lo:ss.length<=ts.length:=by rw[pm.length_eq];exact ml
 exact{.ref D,_,(I2.drawn d).laid (o:=.lst (ss.map V.str)) (t':=tk2) k2 hD {by rw[Qa,Xx];omega,out.toList,m,gM so,at'},rfl,q _ ss (I2.hok.fresh hD) {pm.nodup_iff.mpr nd,λx=>(pm.mem_iff).trans (mm x),st} }
theorem re (hc:X.calm=true) (hg:Gl X "sorted") (hm:X.mg "sorted" = none) (hg1:Gl X "set") (hm1:X.mg "set" = none) (ha:PA X [a] ta) (hs:starEach [a] X.env=[(false,eval a X.env)]:=by rfl)
  (he:starEach [.Call (.Name "set" p1) [a] [] pos1] X.env=[(false,eval (.Call (.Name "set" p1) [a] [] pos1) X.env)]:=by rfl) :
  PE X (.Call (.Name "sorted" p) [.Call (.Name "set" p1) [a] [] pos1] [] pos) (ph X.K ta):=by
 have ha2:PA X [a] (λU H R=>∃A:List V->Hp->Prop,ta U H A/\∀vs H1,A vs H1->R vs H1):=λpos pins s U H R I ⟨A,h,k⟩=>Xp (ha pos pins s U H A I h) (λus s1 ⟨vs,H1,I1,r,q⟩=>{vs,H1,I1,r,k _ _ q}) λ_ _ z=>z;intro pins s U H Q I h;exact pY hc hg hm hg1 hm1 ha2 hs he pins s U H Q I {_,h,λvs H1 ⟨l,ts,e,hl,z,q⟩=>{l,ts,e,hl,⋯,λus nd su=>XB (zI us ts nd su) z,q} }
end
end L2
set_option maxHeartbeats 4000000
namespace L2
open PySem PySem.Spec PyProof.Rows
theorem iT {H1:Hp} {D:Addr} {σ0:St} {g:TG} {te:TE} {QD:Hp->Prop} {a:Addr} {o:Obj} {kvs:List (Key × V)} (Pv:Nat->Hp->List V->Prop) (h0:Pv 0 (upd H1 D (.lst [])) []) (hD:∀i H ys,Pv i H ys->H D=some (.lst ys)/\H a=some (.frz o (.dK kvs)))
  (hs:∀i k v H ys,kvs[i]?=some (k,v)->Pv i H ys->g (kV k) σ0 H λσ2 H2=>wk σ0 σ2/\gL σ2 H2 λb H3=>if b=true then te σ2 H3 (b8 Pv kvs.length D i ys) else ∃m',m'<kvs.length-i/\(m'=kvs.length-(i+1)/\i+1<=kvs.length/\Pv (i+1) H3 ys)) (hd:∀H ys,Pv kvs.length H ys->QD H) :
  ∃W:Nat->Nat->Hp->List V->Prop,(∃m,W 0 m (upd H1 D (.lst [])) [])/\∀i m H ys,W i m H ys->H D=some (.lst ys)/\(((Itd a o kvs).stop i H/\QD H)\/((Itd a o kvs).go i H/\∀x H',(Itd a o kvs).yld i H x H'->g x σ0 H' λσ2 H2=>wk σ0 σ2/\gL σ2 H2 λb H3 =>
   if b=true then te σ2 H3 λv H4=>H4 D=some (.lst ys)/\ys.length<sizeLine/\∃m',m'<m/\W (i+1) m' (upd H4 D (.lst (ys++[v]))) (ys++[v]) else ∃m',m'<m/\W (i+1) m' H3 ys)):=by
 refine{λi m H ys=>m=kvs.length-i/\i<=kvs.length/\Pv i H ys,{kvs.length,by simp,QG _,h0},?_};rintro i m H ys ⟨rfl,hi,p⟩;obtain⟨d1,d2⟩:=hD i H ys p;refine{d1,?_};by_cases hlt:i<kvs.length
 ·refine .inr {⟨d2,hlt⟩,λx H' y=>?_};obtain⟨e,k,v,hk,ex⟩:=y;subst e ex;exact hs i k v _ ys hk p
 have e:i=kvs.length:=by exact om0 hi hlt
 subst e;exact .inl { {d2,Qh _},hd H ys p}
end L2
namespace Tm
open PySem PyProof.Rows
@[reducible] def intK:PyProof.Rows.KeyKind where
 α:=Int
 blt a b:=decide (a<b)
 irrefl a:=by simp
 trans a b c h1 h2:=by simp only[decide_eq_true_eq] at *;exact Int.lt_trans h1 h2
 negTrans a b c h:=by
  simp only[decide_eq_true_eq] at *;by_cases hab:a<b
  ·exact .inl hab
  exact .inr (Int.lt_of_le_of_lt (Int.not_lt.mp hab) h)
 total a b h1 h2:=by simp only[decide_eq_false_iff_not] at *;exact Int.le_antisymm (Int.not_lt.mp h2) (Int.not_lt.mp h1)
 keyOf v:=match v with|.int x _=>some x|_=>none
 dflt:=0
section
variable {prog:Program} {w:World}
end
end Tm
namespace L2
open PySem PySem.Spec PyProof.Rows
section
variable {X:Cx}
end
end L2
namespace Tm
open PySem PyProof.Rows PySem.W
def lX (a b:List Nat × Int):Bool:=decide (a.1<b.1) || (decide (a.1=b.1)&&decide (a.2<b.2))
variable {a b:List Nat × Int}
theorem fc:lX a b=true↔a.1<b.1\/(a.1=b.1/\a.2<b.2):=by simp[lX]
theorem jz:lX a b=false↔¬(a.1<b.1\/(a.1=b.1/\a.2<b.2)):=by rw[<-fc];simp
theorem tq (a:List Nat × Int):lX a a=false:=by
 rw[jz];rintro(h|⟨_,h⟩)
 ·exact List.lt_irrefl _ h
 exact Int.lt_irrefl _ h
def wF:List Value->Option (List Nat × Int)
 | [.str z _,.int i _]=>some (z.cps.toList,i)
 | _=>none
def mR:Data->Option (List Nat × Int)
 | .seq its _=>wF its.toList
 | _=>none
def kh (h:Heap):Value->Option (List Nat × Int)
 | .ref a=>(h.get? a).bind λo=>mR o.data
 | _=>none
theorem yY {h:Heap} {a:Addr} {o:Obj} {its:Array Value} {n:Nat} {z:Str} {t:Tok} {i:Int} {u:Tok} (g:h.get? a=some o) (d:o.data=.seq its n) (e:its.toList=[.str z t,.int i u]):kh h (.ref a)=some (z.cps.toList,i):=by
 show (h.get? a).bind (λo=>mR o.data)=_;rw[g];show mR o.data=_;rw[d];show wF its.toList=_;rw[e];rfl
theorem ym {l:List Value} {k:List Nat × Int} (e:wF l=some k):∃z t i u,l=[.str z t,.int i u]/\k=(z.cps.toList,i):=by
 unfold wF at e
 split at e
 ·exact{_,_,_,_,rfl,(Q0 e).symm}
 cases e
theorem wX {d:Data} {k:List Nat × Int} (e:mR d=some k):∃its n,d=.seq its n/\wF its.toList=some k:=by
 unfold mR at e
 split at e
 ·exact⟨_,_,rfl,e⟩
 cases e
noncomputable def pZ (h:Heap):PyProof.Rows.KeyKind where
 α:=List Nat × Int
 blt:=lX
 irrefl a:=tq a
 trans a b c h1 h2:=by
  rw[fc] at *;rcases h1 with h1|⟨e1,h1⟩ <;> rcases h2 with h2|⟨e2,h2⟩
  ·exact .inl (List.lt_trans h1 h2)
  ·exact .inl (e2▸h1)
  ·exact .inl (e1▸h2)
  exact .inr {e1.trans e2,Int.lt_trans h1 h2}
 negTrans a b c h:=by
  rw[fc] at *;rw[fc];by_cases h1:a.1<b.1
  ·exact .inl (.inl h1)
  by_cases h2:b.1<c.1
  ·exact .inr (.inl h2)
  have l1:=List.not_lt.mp h1;have l2:=List.not_lt.mp h2;rcases h with h|⟨e,h⟩
  ·exact absurd (List.lt_of_le_of_lt (List.le_trans l2 l1) h) (List.lt_irrefl _)
  have e1:a.1=b.1:=List.le_antisymm (e▸l2) l1;by_cases h3:a.2<b.2
  ·exact .inl (.inr ⟨e1,h3⟩)
  exact .inr (.inr {e1▸e,⋯})
 total a b h1 h2:=by
  rw[jz] at *;have e:a.1=b.1:=List.le_antisymm (List.not_lt.mp λz=>h2 (.inl z)) (List.not_lt.mp λz=>h1 (.inl z))
  have:a.2=b.2:=by
   have x1:¬a.2<b.2:=λz=>h1 (.inr ⟨e,z⟩);have x2:¬b.2<a.2:=λz=>h2 (.inr ⟨e.symm,z⟩);omega
  exact Prod.ext e this
 keyOf:=kh h
 dflt:=([],0)
theorem n5 {h:Heap} {v:Value} {k:List Nat × Int} (e:kh h v=some k):∃(a:Addr) (o:Obj) (its:Array Value) (n:Nat) (z:Str) (t:Tok) (i:Int) (u:Tok),v=.ref a/\h.get? a=some o/\o.data=.seq its n/\its.toList=[.str z t,.int i u]/\k=(z.cps.toList,i):=by
 unfold kh at e
 split at e
 ·rename_i a
  cases g:h.get? a with
  | none=>rw[g]at e;cases e
  | some o =>
  rw[g]at e;have e:mR o.data=some k:=e;obtain⟨its,n,d,e⟩:=wX e;obtain⟨z,t,i,u,e1,e2⟩:=ym e;exact⟨a,o,its,n,z,t,i,u,rfl,g,d,e1,e2⟩
 cases e
section
variable {prog:Program} {w:World}
theorem xN {h:Heap} {A:Around} {s:Shared} (keep:∀v k,kh h v=some k->kh s.heap v=some k):iW (pZ h) (tuples' true) prog w A s:=by
 intro E x y a b Q ha hb hq;obtain⟨ax,o1,is1,n1,z1,t1,i1,u1,rfl,g1,d1,l1,rfl⟩:=n5 (keep _ _ ha);obtain⟨ay,o2,is2,n2,z2,t2,i2,u2,rfl,g2,d2,l2,rfl⟩:=n5 (keep _ _ hb);have hq:Q (lX (z1.cps.toList,i1) (z2.cps.toList,i2)) s:=hq;refine kat_lt g1 d1 g2 d2 ?_
 have ez:decide (is1.size<is2.size)=false:=by
  have x1:=congrArg List.length l1;have x2:=congrArg List.length l2;rw[Qs]at x1 x2;rw[x1,x2];rfl
 rw[ez,l1,l2];refine kat_cons (eqBool_str (kat_go (λe=>kat_yes ?_) (λe=>kat_no ?_)))
 ·have e:z1=z2:=by simpa using e
  subst e;refine kat_cons (wpAny_eqBool_int (kat_go (λe=>kat_yes (kat_nil ?_)) (λe=>kat_no ?_)))
  ·have e:i1=i2:=by simpa using e
   subst e;rw[tq]at hq;exact hq
  refine kat_one _ _ (lt_int ?_)
  have:lX (z1.cps.toList,i1) (z1.cps.toList,i2)=decide (i1<i2):=by
   rw[Bool.eq_iff_iff,fc,XC];exact{λh=>h.elim (λh=>absurd h (List.lt_irrefl _)) (·.2),λh=>.inr ⟨rfl,h⟩}
  rw[this]at hq;exact hq
 have e:¬z1=z2:=by simpa using e
 have ne:¬z1.cps.toList=z2.cps.toList:=λz=>e (by cases z1;cases z2;exact congrArg Str.mk (Array.toList_inj.mp z));refine oneLt_str ?_
 have:lX (z1.cps.toList,i1) (z2.cps.toList,i2)=decide (z1.cps.toList<z2.cps.toList):=by
  rw[Bool.eq_iff_iff,fc,XC];exact{λh=>h.elim id (λh=>absurd h.1 ne),λh=>.inl h}
 rw[this]at hq;exact hq
def lH (h:Heap) (bs:F4) (kf:Addr->Str × Int):Prop:=∀b∈bs,∃(o:Obj) (its:Array Value) (n:Nat) (t u:Tok),h.get? b=some o/\o.cls=.type "tuple" /\ o.data=.seq its n/\its.toList=[.str (kf b).1 t,.int (kf b).2 u]
variable {kf:Addr->Str × Int}
theorem pW {h:Heap} {bs:F4} (p:lH h bs kf) {b:Addr} (hb:b∈bs):kh h (.ref b)=some ((kf b).1.cps.toList,(kf b).2):=by
 obtain⟨o,its,n,t,u,g,_,d,l⟩:=p b hb;exact yY g d l
theorem sC {h:Heap} {kf:Addr->Str × Int}:∀{bs:F4},lH h bs kf->∃fs:List Value,fs.length=bs.length/\KatTups h (bs.map Value.ref) fs/\∀f∈fs,∃z t,f=.str z t
 | [],_=>{[],rfl,.nil,λf hf=>nomatch hf}
 | b::bs,p=>by
  obtain⟨fs,l,k,hf⟩:=sC (bs:=bs) λc hc=>p c (Qx _ hc);obtain⟨o,its,n,t,u,g,hc,d,li⟩:=p b (by simp);refine{.str (kf b).1 t::fs,by rw[QS,l,QS],.cons g hc d (by rw[<-QA,li];rfl) k,λf h=>?_};rcases QO.mp h with rfl|h
  ·exact⟨_,_,rfl⟩
  exact hf f h
theorem mW {h0 h:Heap} {a:Addr} {bs:F4} (k0:∀b o,h0.get? b=some o->h.get? b=some o) (p:lH h0 bs kf) (na:∀b o,h0.get? b=some o->b≠a):Can prog w (pZ h0) (tuples' true) h a (bs.map Value.ref) where
 key v hv:=by
  obtain⟨b,hb,rfl⟩:=Qj.mp hv;exact{((kf b).1.cps.toList,(kf b).2),pW p hb}
 lt A s ks:=xN λv k e=>by
  obtain⟨b,o,its,n,z,t,i,u,rfl,g,d,l,rfl⟩:=n5 e;exact yY (ks _ _ (na _ _ g) (k0 _ _ g)) d l
 kind h2 A E s Q ks hq:=by
  have p':lH s.heap bs kf:=λb hb=>by
   obtain⟨o,its,n,t,u,g,hc,d,l⟩:=p b hb;exact{o,its,n,t,u,ks _ _ (na _ _ g) (k0 _ _ g),hc,d,l}
  obtain⟨fs,l,kt,hf⟩:=sC p';rw[Qa]at h2;refine kat_kind (T:=.type "str") kt ⋯ (λf hf'=>?_) (by decide) hq;obtain⟨z,t,rfl⟩:=hf f hf';exact Looks.of_pure rfl
end
end Tm
namespace L2
open PySem PySem.Spec PyProof.Rows
section
variable {X:Cx}
def vI (K:PySem.W.Frag):List V->Hp->VK->Prop:=λxs H Q=>∃(l:Addr) (bs:F4) (kf:Addr->Str × Int),xs=[.ref l]/\SqL K H l (bs.map V.ref)/\(∀b∈bs,H b=some (.tup [.str (kf b).1,.int (kf b).2]))/\bs.length<=100000 /\
 ∀(p:Addr) (bs':F4),H p=none->bs'.Perm bs->bs'.Pairwise (λa b=>leT (kf a).1 (kf b).1)->Q (.ref p) (upd H p (.lst (bs'.map V.ref)))
theorem jH:∀{cs:F4} {us:List Value},ba (cs.map V.ref) us->us=cs.map Value.ref
 | [],_,r=>by
  rw[List.map_nil]at r;cases r;rfl
 | c::cs,_,r=>by
  rw[QM]at r
  cases r with
  | cons r1 r2=>rw[jH r2,QM];cases (show _=Value.ref c from r1);rfl
theorem iJ:∀(cs:F4),ba (cs.map V.ref) (cs.map Value.ref)
 | []=>.nil
 | _::cs=>.cons rfl (iJ cs)
theorem mD:∀{ys zs:List Value},ys.Perm zs->∀l:F4,zs=l.map Value.ref->∃l':F4,l'.Perm l/\ys=l'.map Value.ref:=by
 intro ys zs h
 induction h with
 | nil=>intro l e;cases l with
  | nil=>exact{[],.refl _,rfl}
  | cons a l=>cases e
 | cons x _ ih=>intro l e;cases l with
  | nil=>cases e
  | cons a l =>
   rw[QM]at e;cases e;obtain⟨l',h1,h2⟩:=ih l rfl;exact{a::l',h1.cons a,by rw[h2];rfl}
 | swap x y zs=>intro l e;match l,e with
  | a::b::l,e =>
   cases e;exact{b::a::l,.swap _ _ _,rfl}
 | trans _ _ ih1 ih2 =>
 intro l e;obtain⟨l2,h1,h2⟩:=ih2 l e;obtain⟨l3,h3,h4⟩:=ih1 l2 h2;exact{l3,h3.trans h1,h4}
theorem gZ (hc:X.calm=true):dP X (.builtin "sorted") (vI X.K):=by
 intro pins s U H xs us Q I r h;obtain⟨l,bs,kf,rfl,hl,prs,hz,q⟩:=h;obtain⟨u,rfl,ru⟩:=d_ r;cases ru;obtain⟨its,rv,pl,_⟩:=I.list hl;have ei:=jH rv;subst ei
 have pa:Tm.lH s.heap bs kf:=λb hb=>by
  obtain⟨its,r2,⟨o,g,hc',n,hd⟩,_⟩:=I.tuple (SqT.of (prs b hb))
  cases r2 with
  | cons r3 r4 =>
  cases r4 with
  | cons r5 r6 =>
  cases r6;obtain⟨t,rfl⟩:=r3;obtain⟨u,rfl⟩:=r5;exact⟨o,_,n,t,u,g,hc',hd,rfl⟩
 have lb:(bs.map Value.ref).length=bs.length:=Qa ..
 refine Tm.gj (s:=s) (κ:=λ_=>Tm.pZ s.heap) (kd:=tuples' true) (G:=λh' vs=>vs=bs.map Value.ref/\∀b o,s.heap.get? b=some o->h'.get? b=some o) (λA E R _ hR=>collect_list pl.isList (hR _ _ (bs.map Value.ref) (λb o e=>?_) (by rw[Heap.size_update,size_push'];exact Nat.le_succ _) {rfl,λb o e=>?_}) (by rw[Xx];exact v6 hz lb)) (I.ok.hd hc)
  (λh' vs D k g eD=>?_) λD h' tk vs h1 out m k1 g1 k2 hle hD at' p1 p2=>?_
 ·exact(Q3 _ _ (XE (Ql e))).trans (Qd _ e)
 ·exact(Q3 _ _ (XE (Ql e))).trans (Qd _ e)
 ·obtain⟨rfl,k0⟩:=g;refine{by rw[lb];exact hz,Tm.mW (λb o e=>Qd _ (k0 b o e)) pa λb o e=>by rw[eD];exact Qz (Ql (k0 b o e))}
 obtain⟨rfl,_⟩:=g1;obtain⟨bs',pm,eo⟩:=mD p1 bs rfl;have lo:bs'.length=bs.length:=pm.length_eq;refine{.ref D,_,I.laid (o:=.lst (bs'.map V.ref)) (t':=tk) (λb o g=>k2 b o (k1 b o g)) hle {by rw[Qa,Xx];exact v6 hz lo,out.toList,m,by rw[eo];exact iJ bs',at'},rfl,q _ bs' (I.hok.fresh hle) pm ?_};rw[eo,XJ]at p2;refine p2.imp_of_mem λ{a b} ha hb h=>?_;have h:Tm.lX ((Tm.kh s.heap (.ref b)).getD ([],0)) ((Tm.kh s.heap (.ref a)).getD ([],0))=false:=h;rw[Tm.pW pa (pm.mem_iff.mp ha),Tm.pW pa (pm.mem_iff.mp hb)]at h;exact λz=>(Tm.jz.mp h) (.inl z)
end
end L2
namespace Tm
open PySem PyProof.Rows PySem.W
theorem sf {prog:Program} {w:World} {h:Heap} {a:Addr} {bs:F4} {kf:Addr->Str × Int} (p:lH h bs kf) (na:a=h.objs.size) (l:Obj):Can prog w (pZ h) (tuples' true) (h.push l) a (bs.map Value.ref) :=
 mW (λb o e=>Qd _ e) p λb o e=>by rw[na];exact Qz (Ql e)
end Tm
namespace L2
open PySem PySem.Spec PyProof.Rows
section
variable {X:Cx}
def o8 (a:Addr):Obj:={ cls:=.type "dict_items", data:=.fields #[.ref a] }
def vi (tl:TE):TE:=λU H Q=>tl U H λx H1=>∃a kvs,x=.ref a/\H1 a=some (.dK kvs)/\∀r,H1 r=none->Q (.ref r) (upd H1 r (cR (o8 a)))
theorem vS {l:Expr} {tl:TE} {apos pos:Pos} (hl:PE X l tl) (hbase:attributeBase l "items" X.env (eval l X.env)=eval l X.env:=by rfl) (hline:(apos.endLine==pos.line)=true:=by rfl):PE X (.Call (.Attribute l "items" apos) [] [] pos) (vi tl):=by
 intro pins s U H Q I h;refine wpAny_Call_method (T := "dict") (id := "dict.items") hbase rfl hline F.plainAttrs_dict F.slot_dict_items F.type_dict_items (thn (hl pins s U H _ I h) λv s1 ⟨x,H1,I1,r1,q1⟩=>?_);obtain⟨a,kvs,e,hz,q⟩:=q1;subst e;cases r1;obtain⟨z,hm,vs,rel,dd⟩:=mQ I1.hok hz;refine{dd.typeIs,dd.mapOf.noDict,?_};show wpAny _ _ (callWith pos (.builtin "dict.items") [.ref a] [] []) _ _ s1;refine method_meetsIn F.slot_dict_items F.entry_dict_items rfl (PySem.evalArgs_none {rfl,dd.typeIs,F.args_dict_items_1 _,_,meets_dict_items (bo X.prog X.w) a hm,⟨vs,dd⟩,?_});exact{.ref s1.heap.objs.size,_,I1.laid (t':=s1.toks) (o:=cR (o8 a)) (λb o e=>Qd _ e) (Qh _) (oO (Qq _ rfl)),rfl,q _ (I1.hok.fresh (Qh _))}
abbrev F6:=List (Str × Int)
def bu (ps:F6):List (Key × V):=ps.map λp=>((Sum.inr p.1:Key),V.int p.2)
def zZ (K:PySem.W.Frag):List V->Hp->VK->Prop:=λxs H Q=>∃(r a:Addr) (ps:F6),xs=[.ref r]/\H r=some (cR (o8 a))/\H a=some (.dK (bu ps))/\ps.length<=100000/\ps≠[] /\
 ∀(p:Addr) (bs:F4) (kf:Addr->Str × Int) (H2:Hp),ao H H2->H p=none->(bs.map kf).Perm ps->bs.Pairwise (λx y=>leT (kf x).1 (kf y).1)->(∀b∈bs,H2 b=some (.tup [.str (kf b).1,.int (kf b).2]))->H2 p=some (.lst (bs.map V.ref))->Q (.ref p) H2
theorem Inv.laidAll {pins:F2} {U:St} {H H':Hp} {s:Shared} {h':Heap} {t':Nat} (I:Inv X pins U H s) (k:∀b u,s.heap.get? b=some u->h'.get? b=some u) (old:∀b,b<s.heap.objs.size->H' b=H b) (new:∀b u,s.heap.objs.size<=b->H' b=some u->bD X.prog X.w H' h' b u) :
  Inv X pins U H' { s with heap:=h',toks:=t' }:=by
 have sm:∀b u,H b=some u->H' b=some u:=λb u e=>by rw[old b (I.hok.lt e)];exact e
 refine I.un {λb u q _ _ _=>k b u q,λb u q _ _ _=>{u.slots,k b u q},λb u q n _=>by rw[old b (Ql q)];exact n,λb u q _=>{u,k b u q},λb xs q=>sm _ _ q,λb u xs q=>sm _ _ q,λb ps q=>{#[],by rw[sm _ _ q];simp} } λb u e=>?_;by_cases c:b<s.heap.objs.size
 ·exact(I.hok b u (by rw[<-old b c];exact e)).stay (λc v _ q=>k c v q) (λ_ q=>sm _ _ q) λ_ _ q=>sm _ _ q
 exact new b u (Nat.le_of_not_lt c) e
theorem sj (hc:X.calm=true):dP X (.builtin "sorted") (zZ X.K):=by
 intro pins s U H xs us Q I r h;obtain⟨rv,a,ps,rfl,hr,ha,hz,ne,q⟩:=h;obtain⟨u,rfl,ru⟩:=d_ r;cases ru;obtain⟨er,_⟩:=(show bD X.prog X.w H s.heap rv (cR (o8 a)) from I.hok rv _ hr);obtain⟨z,hm,vs,rel,dd⟩:=mQ I.hok ha;obtain⟨ep,da⟩:=dd.dictAt;have lv:vs.length=ps.length:=by rw[<-KV.len rel];unfold bu;rw[Qa]
 refine Tm.gj (s:=s) (κ:=Tm.pZ) (kd:=tuples' true) (G:=λh' us=>∃(as:F4) (kf:Addr->Str × Int),us=as.map Value.ref/\as.map kf=ps/\Tm.lH h' as kf/\∀b∈as,s.heap.objs.size<=b)
  (λA E R hA hR=>PySem.W.kdx_collect (knd:=bo X.prog X.w) (kvs:=vs) (ep:=ep) hA ⟨_,er,rfl,rfl⟩ da (by rw[lv,Xx];exact QX hz (by decide)) λh' tk as k la g=>?_) (I.ok.hd hc) (λh' us D k g eD=>?_) λD h' tk us h1 out m k1 g1 k2 hle hD at' p1 p2=>?_
 ·have nd:as.Nodup:=g.rise.imp λh=>Qz h;refine hR h' tk _ k ?_ {as,λb=>ps.getD (as.idxOf b) ("", 0),rfl,?_,?_,λb hb=>Xy (g.above b hb)}
  ·obtain⟨b,hb⟩:∃b,b∈as:=List.exists_mem_of_length_pos (by rw[la,lv];exact List.length_pos_iff.mpr ne);exact Xy (Nat.lt_trans (g.above b hb) (g.there hb))
  ·refine List.ext_getElem? λi=>?_;rw[Qi];by_cases c:i<as.length
   ·rw[Qc c];show some (ps.getD (as.idxOf as[i]) ("", 0))=_;rw[nd.idxOf_getElem,QQ,Qc ⋯];rfl
   rw[Xb ⋯,Xb ⋯];rfl
  intro b hb;obtain⟨j,hj,rfl⟩:=Qo.mp hb;obtain⟨key,kk,x,e1,e2,e3⟩:=g.pairs j _ (Qc hj);have hp:j<ps.length:=by omega
  obtain⟨u,e4,e5⟩:=KV.get (i:=j) (k:=Sum.inr (ps[j]).1) (v:=V.int (ps[j]).2) rel (by unfold bu;rw[Qi,Qc hp];rfl);rw[e1]at e4;cases e4;obtain⟨tu,rfl⟩:=e5;rcases bI (show ja (Sum.inr (ps[j]).1) key=true from e2) with⟨i,t,z,_⟩|⟨y,t,z,rfl⟩
  ·cases z
  cases z;dsimp only;rw[nd.idxOf_getElem,QQ,Qc hp];exact⟨_,_,_,t,tu,e3,rfl,rfl,rfl⟩
 ·obtain⟨as,kf,rfl,e,p,_⟩:=g;have la:as.length=ps.length:=by rw[<-e,Qa]
  exact{by rw[Qa,la];exact hz,Tm.sf p eD _}
 obtain⟨as,kf,rfl,e,p,ab⟩:=g1;obtain⟨bs,pm,eo⟩:=mD p1 as rfl;have la:as.length=ps.length:=by rw[<-e,Qa]
 have lb:bs.length=ps.length:=pm.length_eq.trans la;have mem:∀{b},b∈bs->b∈as:=λhb=>pm.mem_iff.mp hb
 have neD:∀{b},b∈bs->b≠D:=λ{b} hb zz=>by
  obtain⟨o,_,_,_,_,g,_⟩:=p b (mem hb);exact absurd (Ql g) (by rw[zz];exact Nat.not_lt.mpr hD)
 let H2:Hp:=λb=>if b=D then some (.lst (bs.map V.ref)) else if b∈bs then some (.tup [.str (kf b).1,.int (kf b).2]) else H b;have h2D:H2 D=some (.lst (bs.map V.ref)):=QL rfl;have h2b:∀b∈bs,H2 b=some (.tup [.str (kf b).1,.int (kf b).2]):=λb hb=>(QI (neD hb)).trans (QL hb);have h2o:∀b,b<s.heap.objs.size->H2 b=H b:=λb hb=>(QI (Qz (QK hb hle))).trans (QI λzz=>absurd (ab b (mem zz)) (Nat.not_le.mpr hb));refine{.ref D,H2,I.laidAll (t':=tk) (λb o g=>k2 b o (k1 b o g)) h2o λb u hb e=>?_,rfl,q D bs kf H2 (λb u e=>by rw[h2o b (I.hok.lt e)];exact e) (I.hok.fresh hle) (by rw[<-e];exact pm.map _) ?_ h2b h2D}
 ·by_cases cD:b=D
  ·subst cD;rw[h2D]at e;cases e;exact{by rw[Qa,lb,Xx];exact QX hz (by decide),out.toList,m,by rw[eo];exact iJ bs,at'}
  by_cases cb:b∈bs
  ·rw[h2b b cb]at e;cases e;obtain⟨o,its,n,t,u,g,hc',hd,l⟩:=p b (mem cb);exact{by simp[Xx],its.toList,by rw[l];exact .cons ⟨t,rfl⟩ (.cons ⟨u,rfl⟩ .nil),o,k2 _ _ g,hc',n,by rw[hd]}
  have:H2 b=H b:=(QI cD).trans (QI cb);rw[this,I.hok.fresh hb]at e;cases e
 rw[eo,XJ]at p2;refine p2.imp_of_mem λ{x y} hx hy h=>?_;have h:Tm.lX ((Tm.kh h1 (.ref y)).getD ([],0)) ((Tm.kh h1 (.ref x)).getD ([],0))=false:=h;rw[Tm.pW p (mem hx),Tm.pW p (mem hy)]at h;exact λz=>(Tm.jz.mp h) (.inl z)
end
section
variable {X:Cx}
def Ab:List V->Hp->VK->Prop:=λxs H Q=>∃a kvs,xs=[.ref a]/\Rd H a (.dK kvs)/\∀l,H l=none->Q (.ref l) (upd H l (.lst (kvs.map λp=>kV p.1)))
theorem ld (hc:X.calm=true):dP X (.type "list") Ab:=by
 intro pins s U H xs us Q I r h;obtain⟨a,kvs,rfl,rd,q⟩:=h;obtain⟨u,rfl,ru⟩:=d_ r;cases ru;obtain⟨z,hm,vs,rel,dd⟩:=jd I.hok rd;obtain⟨ep,da⟩:=dd.dictAt;have lv:=KV.len rel;refine PySem.W.kdl_call (PySem.W.kdl_dict (knd:=bo X.prog X.w) (kvs:=vs) (ep:=ep) hm) (I.ok.hd hc) da (by rw[<-lv];exact z) λh' tk acc c k at' it=>?_
 have rv:ba (kvs.map λp=>kV p.1) acc.toList:=by
  refine paired_get (by rw[Qa,show acc.toList.length=acc.size from Qs,it.1,lv]) λj x y e1 e2=>?_;obtain⟨k',x',e3,e4⟩:=it.2 j y (by rw[<-QA];exact e2);rw[Qi]at e1
  cases e5:kvs[j]? with
  | none=>rw[e5]at e1;cases e1
  | some p =>
  rw[e5]at e1;cases e1;obtain⟨u,hu,_⟩:=KV.get (i:=j) (k:=p.1) (v:=p.2) rel e5;rw[e3]at hu;cases hu;exact wG e4
 exact{.ref s.heap.objs.size,_,I.laid (o:=.lst (kvs.map λp=>kV p.1)) (t':=tk) k (Qh _) {by rw[Qa];exact z,acc.toList,c,rv,at'},rfl,q _ (I.hok.fresh (Qh _))}
end
end L2
namespace L2
open PySem PySem.Spec PyProof.Rows
open AutoSeq1 (wpAny_loadPart')
section
variable {A:Around} {s:Shared} {l:Addr}
end
section
variable {X:Cx}
end
end L2
namespace L2
open PySem PySem.Spec PyProof.Rows
section
variable {X:Cx}
def o9 (a:Addr):Obj:={ cls:=.type "dict_values", data:=.fields #[.ref a] }
def yG (tl:TE):TE:=λU H Q=>tl U H λx H1=>∃a kvs,x=.ref a/\H1 a=some (.dK kvs)/\∀r,H1 r=none->Q (.ref r) (upd H1 r (cR (o9 a)))
theorem xK {l:Expr} {tl:TE} {apos pos:Pos} (hl:PE X l tl) (hbase:attributeBase l "values" X.env (eval l X.env)=eval l X.env:=by rfl) (hline:(apos.endLine==pos.line)=true:=by rfl):PE X (.Call (.Attribute l "values" apos) [] [] pos) (yG tl):=by
 intro pins s U H Q I h;refine wpAny_Call_method (T := "dict") (id := "dict.values") hbase rfl hline F.plainAttrs_dict F.slot_dict_values F.type_dict_values (thn (hl pins s U H _ I h) λv s1 ⟨x,H1,I1,r1,q1⟩=>?_);obtain⟨a,kvs,e,hz,q⟩:=q1;subst e;cases r1;obtain⟨z,hm,vs,rel,dd⟩:=mQ I1.hok hz;refine{dd.typeIs,dd.mapOf.noDict,?_};show wpAny _ _ (callWith pos (.builtin "dict.values") [.ref a] [] []) _ _ s1;refine method_meetsIn F.slot_dict_values F.entry_dict_values rfl (PySem.evalArgs_none {rfl,dd.typeIs,F.args_dict_values_1 _,_,meets_dict_values (bo X.prog X.w) a hm,⟨vs,dd⟩,?_});exact{.ref s1.heap.objs.size,_,I1.laid (t':=s1.toks) (o:=cR (o9 a)) (λb o e=>Qd _ e) (Qh _) (oO (Qq _ rfl)),rfl,q _ (I1.hok.fresh (Qh _))}
def Bm:List V->Hp->VK->Prop:=λxs H Q=>∃(r a:Addr) (ps:F6),xs=[.ref r]/\H r=some (cR (o9 a))/\H a=some (.dK (bu ps))/\ps≠[]/\∀n,(∃p∈ps,p.2=n)->(∀p∈ps,p.2<=n)->Q (.int n) H
theorem u6 (hc:X.calm=true):dP X (.builtin "max") Bm:=by
 intro pins s U H xs us Q I r h;obtain⟨rv,a,ps,rfl,hr,ha,ne,q⟩:=h;obtain⟨u,rfl,ru⟩:=d_ r;cases ru;obtain⟨er,_⟩:=(show bD X.prog X.w H s.heap rv (cR (o9 a)) from I.hok rv _ hr);obtain⟨z,hm,vs,rel,dd⟩:=mQ I.hok ha;obtain⟨ep,da⟩:=dd.dictAt;have lv:vs.length=ps.length:=by rw[<-KV.len rel];unfold bu;rw[Qa]
 have pos:0<ps.length:=List.length_pos_iff.mpr ne;let val:Nat->Int:=λi=>((ps[i]?).map (·.2)).getD 0
 have hval:∀(i:Nat) (v:Value),(∃k,vs[i]?=some (k,v))->∃t,v=.int (val i) t:=λi v ⟨k,e⟩=>by
  have hi:i<ps.length:=by rw[<-lv];exact(Qe.mp e).1
  obtain⟨u,e4,e5⟩:=KV.get (i:=i) (k:=Sum.inr (ps[i]).1) (v:=V.int (ps[i]).2) rel (by unfold bu;rw[Qi,Qc hi];rfl);rw[e]at e4;cases e4;obtain⟨tu,rfl⟩:=e5;exact{tu,by show _=Value.int (((ps[i]?).map (·.2)).getD 0) _;rw[Qc hi];rfl}
 refine call_max_walkS ?_;have K:=PySem.W.kdl_values (prog:=X.prog) (w:=X.w) (r:=rv) (d:=a) (knd:=bo X.prog X.w) (kvs:=vs) (ep:=ep);obtain⟨oI,St,hit,W,st⟩:=K.iter X.A.in1 s (I.ok.hd hc) {⟨_,er,rfl,rfl⟩,da};refine hit _ _ {s.heap.objs.size,_,_,_,vs.length,_,_,_,rfl,W.toS,st,λb hb=>?_,⋯,CmpOf.ints_gt val hval,λv s' hP hm=>?_}
 ·show b<(s.heap.push oI).objs.size;rw[size_push'];rcases QO.mp hb with e|hb
  ·rw[e];exact Nat.lt_succ_self _
  rw[Qr.mp hb];exact Nat.lt_succ_of_lt (K.there _ {⟨_,er,rfl,rfl⟩,da}).2
 have hk:∀b o,s.heap.get? b=some o->s'.heap.get? b=some o:=λb o e =>
  hm.heap b o (λhI=>absurd (Ql e) (by rw[Qr.mp hI];exact Nat.lt_irrefl _)) (Qd _ e)
 rw[Moved.eq_with hm];obtain⟨t,rfl⟩:=hval _ v hP;obtain⟨b1,b2⟩:=argBest_gt val (vs.length-1);have at':∀{i:Nat} (h:i<ps.length),val i=(ps[i]).2:=λ{i} h=>by show ((ps[i]?).map (·.2)).getD 0=_;rw[Qc h];rfl
 refine{.int _,H,I.laidAll hk (λ_ _=>rfl) λb u hb e=>absurd (I.hok.lt e) (Nat.not_lt.mpr hb),⟨t,rfl⟩,q _ {_,Xo ⋯,(at' ⋯).symm} λp hp=>?_};obtain⟨i,hi,rfl⟩:=Qo.mp hp;have:=b2 i ⋯;rw[at' hi]at this;exact this
end
end L2
namespace K2
open PySem L2
abbrev IvF:=Nat->St->Hp->Prop
abbrev IvC:=Nat->Hp->List V->Prop
abbrev IvJ:=St->Hp->Prop
variable {X:Cx}
theorem jB {K:PySem.W.Frag} (h:X.K=K):IxR X (pS K):=by subst h;exact bg
variable {H H':Hp} {U:St} {td ty tv tl:TE}
theorem iI {D:Ends} (q:tv U H λv H1=>td U H1 λx H2=>ty U H2 λy H3=>∃a H4,x=.ref a/\iD H3 a y v H4/\D.nx U H4):yR td ty tv D U H:=q
theorem DZ {Q:VK} (q:ty U H λy H1=>td U H1 λx H2=>∃a o,x=.ref a/\cK H2 a y o/\Q (.bl o.isSome) H2):Bh ty td U H Q:=q
theorem fg {Q:VK} (q:ty U H λy H1=>td U H1 λx H2=>∃a o,x=.ref a/\cK H2 a y o/\Q (.bl (!o.isSome)) H2):sF ty td U H Q:=q
theorem vG {t:TS} {D:Ends} {a:Addr} {u:HO} (r:Rd H a u) (f:Fz u) (q:∀o,t (yF D H a o u) U (upd H a (.frz o u))):Bb t D U H:=⟨a,u,r,f,q⟩
theorem gk {R:It->Hp->Prop} (q:tl U H λx H1=>∃a o kvs,x=.ref a/\H1 a=some (.frz o (.dK kvs))/\R (Itd a o kvs) H1):wJ tl U H R:=q
theorem dM {K:PySem.W.Frag} (h:X.K=K):IxR X (rb K):=by subst h;exact aH
structure Txt (K:PySem.W.Frag) (mg:F3) (TT:Addr):Prop where
 n_len:mg "len" = none
 n_range:mg "range" = none
 n_max:mg "max" = none
 n_min:mg "min" = none
 n_int:mg "int" = none
 n_list:mg "list" = none
 n_str:mg "str" = none
 n_isinstance:mg "isinstance" = none
 n_all:mg "all" = none
 n_set:mg "set" = none
 n_dict:mg "dict" = none
 n_enumerate:mg "enumerate" = none
 n_sorted:mg "sorted" = none
 n_tuple:mg "tuple" = none
 n_bool:mg "bool" = none
 n_zip:mg "zip" = none
 n_reversed:mg "reversed" = none
 n_abs:mg "abs" = none
 tURNED:mg "TURNED" = some (.ref TT)
 tab:sD K TT [("0", .flat (.str "1")),("1", .flat (.str "0"))]
inductive Rl where
 | w (n:Str)|no (r:Rl)|an (a b:Rl)|orr (a b:Rl)
def Rl.ok (ns:List Str):Rl->Prop
 | .w n=>n∈ns
 | .no r=>r.ok ns
 | .an a b=>a.ok ns/\b.ok ns
 | .orr a b=>a.ok ns/\b.ok ns
def Rl.dep:Rl->Nat
 | .w _=>1
 | .no r=>r.dep+1
 | .an a b=>max a.dep b.dep+1
 | .orr a b=>max a.dep b.dep+1
def Rl.val (f:Str->Bool):Rl->Bool
 | .w n=>f n
 | .no r=>!r.val f
 | .an a b=>a.val f&&b.val f
 | .orr a b=>a.val f || b.val f
inductive RAt (H:Hp):V->Rl->Prop where
 | w {a:Addr} {n:Str}:H a=some (.tup [.str "wire", .str n])->RAt H (.ref a) (.w n)
 | no {a:Addr} {v:V} {r:Rl}:H a=some (.tup [.str "not", v])->RAt H v r->RAt H (.ref a) (.no r)
 | an {a:Addr} {v u:V} {r s:Rl}:H a=some (.tup [.str "and", v,u])->RAt H v r->RAt H u s->RAt H (.ref a) (.an r s)
 | orr {a:Addr} {v u:V} {r s:Rl}:H a=some (.tup [.str "or", v,u])->RAt H v r->RAt H u s->RAt H (.ref a) (.orr r s)
def dy (H H':Hp):Prop:=∀b xs,H b=some (.tup xs)->H' b=some (.tup xs)
theorem ao.tups (S:ao H H'):dy H H':=λb xs e=>S b _ e
theorem RAt.mono (hs:dy H H') {v:V} {r:Rl} (h:RAt H v r):RAt H' v r:=by
 induction h with
 | w e=>exact .w (hs _ _ e)
 | no e _ ih=>exact .no (hs _ _ e) ih
 | an e _ _ i1 i2=>exact .an (hs _ _ e) i1 i2
 | orr e _ _ i1 i2=>exact .orr (hs _ _ e) i1 i2
def GAt (H:Hp) (v:V) (g:Str × Rl):Prop:=∃b rv,v=.ref b/\H b=some (.tup [.str g.1,rv])/\RAt H rv g.2
theorem GAt.mono (hs:dy H H') {v:V} {g:Str × Rl} (h:GAt H v g):GAt H' v g:=let ⟨b,rv,e,h1,h2⟩:=h;{b,rv,e,hs _ _ h1,h2.mono hs}
abbrev F5:=List (Str × Rl)
structure NAt (H:Hp) (a li lg:Addr) (ins:List Str) (vs:List V) (gs:F5):Prop where
 ha:H a=some (.tup [.ref li,.ref lg])
 hi:H li=some (.lst (ins.map V.str))
 hg:H lg=some (.lst vs)
 gates:Paired (GAt H) vs gs
theorem bE {H H':Hp} (hs:dy H H'):∀{vs:List V} {gs:F5},Paired (GAt H) vs gs->Paired (GAt H') vs gs
 | _,_,.nil=>.nil
 | _,_,.cons h t=>.cons (h.mono hs) (bE hs t)
theorem NAt.same {a li lg:Addr} {ins:List Str} {vs:List V} {gs:F5} (S:ao H H') (h:NAt H a li lg ins vs gs):NAt H' a li lg ins vs gs:={S _ _ h.ha,S _ _ h.hi,S _ _ h.hg,bE (ao.tups S) h.gates}
def aq (ins:List Str) (gs:F5):List Str:=ins++gs.map (·.1)
structure NetOk (ins:List Str) (gs:F5):Prop where
 nd:(aq ins gs).Nodup
 i4:ins.length<=4
 g1:1<=gs.length
 g7:gs.length<=7
 rules:∀g∈gs,g.2.ok (aq ins gs)/\g.2.dep<=10
structure StOk (n:Nat) (z:Str):Prop where
 len:z.cps.size=n
 signs:∀c∈z.cps.toList,c=48\/c=49
def sg (b:Bool):V:=if b then .str "1" else .str "0"
def sgn (names:List Str) (z:Str) (n:Str):Bool:=z.cps.getD (names.idxOf n) 0==49
def DFn (kvs:List (Key × V)) (names:List Str) (f:Str->Bool):Prop:=∀n∈names,bh kvs (Sum.inr n:Key)=some (sg (f n))
theorem dJ {K:PySem.W.Frag} (h:X.K=K):dP X (.builtin "len") (λxs H Q=>∃p ys,xs=[.ref p]/\(SqL K H p ys\/SqT K H p ys)/\Q (.int ys.length) H):=by subst h;exact aI
variable {pos p:Pos} {es a:List Expr}
theorem sV {K:PySem.W.Frag} {k:Nat} {t:TGs} {n:Nat} (hK:X.K=K) (hc:X.calm=true) (h:PGs X es t)
  (hn:(assignEach es X.env).length=n:=by rfl) (hst:(assignEach es X.env).findIdx? (·.1)=none:=by rfl):PG X (.Tuple es k pos) (AV K n t):=by subst hK;exact fR hc h hn hst
theorem c9 {A B:TS} {D:Ends} (J:St->Hp->Prop) (h:∀(R:St->Hp->Prop),(∀U H,J U H->R U H)->A { D with nx:=R } U H) (hJ:∀U H,J U H->B D U H):xy A B D U H:=h (B D) hJ
variable {env:Env}
theorem se_tup {n:Nat}:starEach (.Tuple a n p::es) env=(false,eval (.Tuple a n p) env)::starEach es env:=by rfl
theorem se_lst:starEach (.List a p::es) env=(false,eval (.List a p) env)::starEach es env:=by rfl
theorem se_call {f:Expr} {k:List Keyword}:starEach (.Call f a k p::es) env=(false,eval (.Call f a k p) env)::starEach es env:=by rfl
theorem aL {c:Const} {n:Nat}:starEach (.Constant c n p::es) env=(false,eval (.Constant c n p) env)::starEach es env:=by rfl
theorem ai {x:Str}:starEach (.Name x p::es) env=(false,eval (.Name x p) env)::starEach es env:=by rfl
theorem se_bin {a b:Expr} {o:Operator}:starEach (.BinOp a o b p::es) env=(false,eval (.BinOp a o b p) env)::starEach es env:=by rfl
theorem se_lc {a:Expr} {g:List Comprehension} {sc:Scope}:starEach (.ListComp a g sc p::es) env=(false,eval (.ListComp a g sc p) env)::starEach es env:=by rfl
theorem se_sub {a b:Expr}:starEach (.Subscript a b p::es) env=(false,eval (.Subscript a b p) env)::starEach es env:=by rfl
theorem i9 {α β:Type} {F:α->β->Prop}:∀{xs:List α} {ys:List β} {x:α} {y:β},Paired F xs ys->F x y->Paired F (xs++[x]) (ys++[y])
 | _,_,_,_,.nil,h=>.cons h .nil
 | _,_,_,_,.cons h t,g=>.cons h (i9 t g)
theorem bX {α β:Type} {F G:α->β->Prop} (h:∀a b,F a b->G a b):∀{xs:List α} {ys:List β},Paired F xs ys->Paired G xs ys
 | _,_,.nil=>.nil
 | _,_,.cons a t=>.cons (h _ _ a) (bX h t)
theorem paired_get {α β:Type} {F:α->β->Prop}:∀{xs:List α} {ys:List β} {i:Nat} {x:α},Paired F xs ys->xs[i]?=some x->∃y,ys[i]?=some y/\F x y
 | _,_,_,_,.nil,e=>by simp at e
 | _,_,0,_,.cons r _,e=>by simp at e;subst e;exact⟨_,rfl,r⟩
 | _,_,i+1,x,.cons _ t,e=>by
  obtain⟨u,h1,h2⟩:=paired_get (i:=i) (x:=x) t (by simpa using e);exact{u,by simpa using h1,h2}
theorem ifT {c:Bool} {A B:Prop} (hc:c=true) (h:A):if c=true then A else B:=by rw[QL hc];exact h
theorem ifF {c:Bool} {A B:Prop} (hc:c=false) (h:B):if c=true then A else B:=by subst hc;exact di h
theorem aN {D:Addr} {o:HO} (S:ao H H') (hD:H D=none):ao H (upd H' D o):=λb u e=>by rw[am (aG e hD)];exact S b u e
theorem aJ {p:Addr} {o:HO} (h:H p=none) (e:upd H p o=H'):ao H H'/\H' p=some o:=by
 subst e;exact{ag h,af}
theorem aQ {α β:Type} {F:α->β->Prop}:∀{xs:List α} {ys:List β},Paired F xs ys->xs.length=ys.length
 | _,_,.nil=>rfl
 | _,_,.cons h t=>by simp[aQ t]
end K2
namespace K2
open PySem L2
abbrev SqLofQ:=@SqL.of
abbrev i_cQ:=@i_c
abbrev i_callQ:=@bJ
abbrev i_cbQ:=@dN
abbrev i_consQ:=@ak
abbrev i_ixLQ:=@bd
abbrev i_lstQ:=@cA
abbrev i_nilQ:=@aC
abbrev i_opQ:=@aV
abbrev i_rIQ:=@dj
abbrev i_rI0Q:=@cw
abbrev i_varQ:=@aj
abbrev iteFQ:=@di
abbrev iteTQ:=@b9
abbrev pa_consQ:=@aa
abbrev pa_nilQ:=@ad
abbrev pe_intQ:=@ae
abbrev pe_lstQ:=@aY
abbrev pe_strQ:=@aU
abbrev pe_tupQ:=@bq
abbrev pss_oneQ:=@a9
abbrev s_asgQ:=@bp
abbrev s_nameQ:=@az
abbrev s_retQ:=@ck
abbrev se_conQ:=@aL
abbrev se_nameQ:=@ai
local macro_rules | `(tactic| walk_at "vc") => `(tactic| first
 | ((refine' (?zz : (?zA → ?zG) → ?zA → ?zG) ?zr ?_); (case zr => with_reducible exact s_seqT); (case zz => exact fun _ q => q); intro D') | ((refine' (?zz : (?zA → ?zG) → ?zA → ?zG) ?zr ?_); (case zr => with_reducible first | exact s_asgQ | exact s_drop | exact s_retQ | exact s_if | exact s_sub | exact s_next | exact i_cQ | exact i_opQ | exact i_test | exact i_tB | exact i_and | exact i_or | exact i_not | exact i_andV | exact i_orV | exact i_notV | exact i_ifE | exact i_nilQ | exact i_consQ | exact i_cbQ | exact i_tup | exact i_lstQ | exact i_bm | exact i_sl | exact i_nopart | exact i_part | exact s_for | exact s_rng1 | exact s_list | exact s_str | exact i_dget | exact i_yes | exact i_un); (case zz => exact fun _ q => q))   | (with_reducible refine s_nameQ ?_)
 | ((with_reducible refine' i_varQ ?hv ?_); (case hv => exact rfl))   | (with_reducible first | refine i_rI0Q ?_ | refine i_callQ ?_ | refine s_strI ?_ | refine iteFQ ?_ | refine iteTQ ?_ | refine i_rU ?_)
 | ((with_reducible show ∃ i, V.int _ = V.int i ∧ _); (refine ⟨_, rfl, ?_⟩)) | ((with_reducible show ∃ k, V.bl _ = V.bl k ∧ _); (refine ⟨_, rfl, ?_⟩)) | ((with_reducible show (∃ i, [V.bl _] = [V.int i] ∧ _) ∨ _); (refine Or.inr ⟨_, rfl, ?_⟩))
 | ((with_reducible refine' i_ixLQ ?ha ?hb ?_); (case ha => exact SqLofQ (by assumption)); (case hb => exact rfl)) | ((with_reducible refine' i_ixT ?ha ?hb ?_); (case ha => assumption); (case hb => exact rfl))
 | ((with_reducible show ∃ p _, [V.ref _] = [V.ref p] ∧ (SqL _ _ _ _ ∨ SqT _ _ _ _) ∧ _); (refine' ⟨_, _, rfl, Or.inl (SqLofQ ?ha), ?_⟩); (case ha => assumption)) | ((with_reducible refine' s_setL ?ha ?hb ?_); (case ha => assumption); (case hb => exact rfl))
 | ((with_reducible refine' i_eq ?ha ?_); (case ha => exact rfl)) | ((with_reducible refine' i_ne ?ha ?_); (case ha => exact rfl))
 | ((with_reducible show ∃ z, V.str _ = V.str z ∧ _); (refine ⟨_, rfl, ?_⟩))
 | ((with_reducible refine' i_rIQ ?hv ?_); (case hv => first | decide | (dsimp only; omega) | exact .inl ⟨⋯, by omega⟩ | exact .inr ⟨⋯, by omega⟩ | exact ⟨by decide, by decide⟩ | exact ⟨by decide, by decide, by decide⟩ | exact ⟨⋯, by omega⟩))
 | ((with_reducible show ∃ i, [V.int _] = [V.int i] ∧ _); (refine ⟨_, rfl, ?_⟩))
 | ((with_reducible show tyV _ "list" _ _ ∧ _); (refine' ⟨i_tyL ?ha, ?_⟩); (case ha => assumption)))
local macro_rules | `(tactic| walk_at "p") => `(tactic| repeat' (with_reducible first | (refine' pss_oneQ ?_; rotate_left 1) | (refine' pss_cons ?_ ?_; rotate_left 2) | exact pss_nil | (refine' ps_if ?_ ?_ ?_; rotate_left 3)))
local macro_rules | `(tactic| walk_at "b") => `(tactic| (refine' pss_cons ?_ ?_; rotate_left 2; walk_at "p"))
local macro_rules | `(tactic| walk_at "f") => `(tactic| (refine' ps_for PassesOwn.never rfl ?_ ?_ ?_ (fun _ => rfl); rotate_left 3))
local macro_rules | `(tactic| walk_at "q") => `(tactic| repeat' (with_reducible first | exact pe_strQ | exact pe_intQ | exact pa_nilQ | (refine' pe_tupQ ?_; rotate_left 1) | (refine' pe_lstQ ?_; rotate_left 1) | (refine' pa_consQ ?_ ?_ se_conQ; rotate_left 2) | (refine' pa_consQ ?_ ?_ se_tup; rotate_left 2) | (refine' pa_consQ ?_ ?_ se_nameQ; rotate_left 2) | (refine' pa_consQ ?_ ?_ se_sub; rotate_left 2) | (refine' pa_consQ ?_ ?_ se_bin; rotate_left 2) | (refine' pa_consQ ?_ ?_ se_lst; rotate_left 2) | (refine' pa_consQ ?_ ?_ se_call; rotate_left 2) | (refine' pa_consQ ?_ ?_ se_lc; rotate_left 2)))
local macro_rules | `(tactic|room) => `(tactic| (intro vs H Q E h; repeat (first | (obtain ⟨e, _⟩ := h; subst e; rfl) | (obtain ⟨_, h⟩ := h))))
local macro_rules | `(tactic|x_go) => `(tactic| ((try dsimp only [cxOf, Cx.nox, Cx.wish]); (conv in (L2.start _ _) => simp only [L2.start, QM, List.map_nil, QS, List.length_nil, List.replicate_succ, List.replicate_zero, List.cons_append, List.nil_append, Nat.reduceAdd, Nat.reduceSub]); have big : 100000 < sizeLine := by decide))
local macro_rules | `(tactic|kt_k) => `(tactic| (with_reducible first | refine s_seq ?_ | refine s_if ?_ | refine s_next ?_ | refine i_or ?_ | refine s_nameQ ?_ | refine s_retQ ?_))
local macro_rules|`(tactic|lk)=>`(tactic|repeat walk_at "vc")
local macro_rules|`(tactic|fin2)=>`(tactic|exact⟨rfl,rfl,rfl,by decide +kernel,rfl,by decide +kernel,by decide +kernel⟩)
def sI:Sp:=λvs H Q _=>∃a li lg ins gvs gs,vs=[.ref a]/\NAt H a li lg ins gvs gs/\NetOk ins gs/\∀l H',ao H H'->H l=none->H' l=some (.lst ((aq ins gs).map V.str))->Q (.ref l) H'
def sM:Sp:=λvs H Q _=>∃a li lg ins gvs gs,vs=[.ref a]/\NAt H a li lg ins gvs gs/\NetOk ins gs/\∀l H',ao H H'->H l=none->H' l=some (.lst ((gs.map (·.1)).map V.str))->Q (.ref l) H'
variable {gvs vs ys us:List V} {a li lg f T b l p q g F t L TL:Addr} {i n j m B lo hi:Nat} {Q:VK} {H H' H1 H2 H3 H4:Hp} {U σ0:St} {K:PySem.W.Frag}
theorem u5 {c:Int} {vals:List V} (hσ:U[i]?=some (some (.ref a))) (ha:H a=some (.tup [.ref li,.ref lg])) (hg:H lg=some (.lst gvs)) (hs:gvs.length<=1000)
  (hx:∀(j:Nat) x,gvs[j]?=some x->∃b ys v,x=.ref b/\H b=some (.tup ys)/\atI ys c=some v/\vals[j]?=some v) (hl:vals.length=gvs.length)
  (q:∀D H',H D=none->ao H H'->H' D=some (.lst vals)->Q (.ref D) H') :
  iZ (mN K (tOp (pS K) (bV i) (tC (V.int 1)))) (eE 0) gL (tOp (pS K) (bV 0) (tC (V.int c))) (ca [Str.ofString "gate"] []) U H Q:=by
 refine bR (s_list (aV (aj hσ (i_c (i_ixT ha rfl {lg,rfl,{_,SqL.of hg},λD hD=>?_})))));have big:1000<sizeLine:=by decide
 refine cg (xs:=gvs) (λn H' ys=>ao H H'/\H' D=some (.lst ys)/\ys=vals.take n) {ag hD,af,by simp} (λn H' ys p=>{p.2.1,SqL.of (p.1 _ _ hg)}) (λn x H' ys e p=>?_) (λH' ys p=>?_)
 ·obtain⟨S,hd,rfl⟩:=p;obtain⟨b,zs,v,rfl,hb,hv,hv2⟩:=hx n x e;have hn:n<gvs.length:=(Qe.mp e).1;refine az {trivial,?_};refine i_yes (b9 ?_);refine aV (aj rfl (i_c (i_ixT (S _ _ hb) hv (b8.mk hd hn (by rw[Qv];omega) {aN S hD,af,?_}))));rw[QV,hv2];rfl
 obtain⟨S,hd,rfl⟩:=p;exact q D H' hD S (by rw[hd,Qw ⋯])
theorem dB {α β:Type} {F:α->β->Prop}:∀{xs:List α} {ys:List β},Paired F xs ys->∀(j:Nat) x,xs[j]?=some x->∃y,ys[j]?=some y/\F x y
 | _,_,.nil=>λj x e=>by simp at e
 | _,_,.cons (a:=a) (b:=b) h t=>λj x e=>by
  cases j with
  | zero=>simp at e;subst e;exact⟨_,rfl,h⟩
  | succ j=>simp at e;obtain⟨y,e',f⟩:=dB t j x e;exact{y,by simpa using e',f}
variable {gs:F5} {ins ns ms xs zs os ss:List Str}
theorem se {Q:VK} (hσ:U[i]?=some (some (.ref a))) (NA:NAt H a li lg ins gvs gs) (ok:NetOk ins gs)
  (q:∀D H',H D=none->ao H H'->H' D=some (.lst ((gs.map (·.1)).map V.str))->Q (.ref D) H') :
  iZ (mN K (tOp (pS K) (bV i) (tC (V.int 1)))) (eE 0) gL (tOp (pS K) (bV 0) (tC (V.int 0))) (ca [Str.ofString "gate"] []) U H Q:=by
 have l:=aQ NA.gates;have g7:=ok.g7;refine u5 (vals:=(gs.map (·.1)).map V.str) hσ NA.ha NA.hg ⋯ (λj x e=>?_) (by simp[l]) q;obtain⟨g,e',b,rv,rfl,hb,hr⟩:=dB NA.gates j x e;exact{b,_,_,rfl,hb,rfl,by simp[e']}
theorem mj (ok:NetOk ins gs):(ins.map V.str).length+((gs.map (·.1)).map V.str).length<=sizeLine:=by
 have g7:=ok.g7;have i4:=ok.i4;have big:1000<sizeLine:=by decide
 simp only[Qa];omega
theorem mh (ins:List Str) (gs:F5):ins.map V.str++(gs.map (·.1)).map V.str=(aq ins gs).map V.str:=by unfold aq;rw[Qt]
variable {P:Program} {w:World} {K:PySem.W.Frag} {mg:F3} {base:Heap} {TT:Addr}
section
theorem pQ:FnScope ["net"] ["net"] (aB (top 8)):=by fin2
theorem wf {f:Addr} {fd:FuncData} (Fu:Fun K "gates_of" "gates_of" (top 8) f fd) (T:Txt K mg TT):FnOk P w K mg base CX0 1 f fd ["net"] sM:=by
 have S:=pQ;refine Fu.ok S (by room) (λcdv A outer s H vs Q E hr h=>?_);obtain⟨a,li,lg,ins,gvs,gs,rfl,NA,ok,k⟩:=h;refine{_,(a9 (aK (dq "gate" [] (bx (aD bg (pv 0) ae)) (λ_ _ _ _=>(aD (jB (K:=K) rfl) (pv 0) ae))))),?_};x_go;refine se (Q:=Q) rfl NA ok λD H2 hD s2 h2=>?_;exact k D H2 s2 hD h2
theorem pF:FnScope ["net"] ["net"] (aB (top 9)):=by fin2
theorem v_ {f:Addr} {fd:FuncData} (Fu:Fun K "wires_of" "wires_of" (top 9) f fd) (T:Txt K mg TT) (f_gates_of:Fn P w K mg base "gates_of" ["net"] 1 sM):FnOk P w K mg base CX0 2 f fd ["net"] sI:=by
 have S:=pF;refine Fu.ok S (by room) (λcdv A outer s H vs Q E hr h=>?_);obtain⟨a,li,lg,ins,gvs,gs,rfl,NA,ok,k⟩:=h;obtain⟨ha,hi,hg,gts⟩:=id NA;refine{_,(a9 (aK (ap cu (gr iB (by rfl) T.n_list PyProof.Rows.boot_list (aa (aD bg (pv 0) ae) ad)) (aS f_gates_of hr (aa (pv 0) ad))))),?_};x_go;lk;intro l hl;have s1:=ag (o:=.lst (ins.map V.str)) hl;have NA1:=NA.same s1;lk;refine{a,li,lg,ins,gvs,gs,rfl,NA1,ok,λD H2 s2 hD h2=>?_};have hl2:H2 l=some (.lst (ins.map V.str)):=s2 _ _ af;refine gG hl2 h2 (mj ok) λp hp=>?_;have hs:ao H (upd H2 p (HO.lst (ins.map V.str++(gs.map (·.1)).map V.str))):=s1.trans (s2.trans (ag hp));refine k p _ hs (ao.free (s1.trans s2) hp) ?_;rw[af,mh]
end
def ny (v:V):Sp:=λvs H Q _=>∃a li lg ins gvs gs z,vs=[.ref a,.str z]/\NAt H a li lg ins gvs gs/\NetOk ins gs/\StOk (aq ins gs).length z/\∀H',ao H H'->Q v H'
def stB (n:Nat) (z:Str):Bool:=decide (z.cps.size=n)&&z.cps.toList.all λc=>c==48 || c==49
variable {z y s x h:Str}
theorem nr:stB n z=true↔StOk n z:=by
 unfold stB;rw[Xm,XC,QN];exact{λh=>{h.1,λc hc=>by simpa using h.2 c hc},λh=>{h.len,λc hc=>by simpa using h.signs c hc} }
def yP:Sp:=λvs H Q _=>∃(z:Str) (m:Nat),vs=[.str z,.int (m:Int)]/\z.length<=1000/\∀H',ao H H'->Q (.bl (stB m z)) H'
def nw:Sp:=λvs H Q _=>∃a li lg ins gvs gs z,vs=[.ref a,.str z]/\NAt H a li lg ins gvs gs/\NetOk ins gs/\z.length<=1000/\∀H',ao H H'->Q (.bl (stB (aq ins gs).length z)) H'
theorem AR (c:Nat):PyProof.Rows.KTD.inKeys ({#[c]}:Str) [(("0" : Str),PyProof.Rows.KTD.Dat.flat (PyData.str "1")),("1", .flat (.str "0"))]=(c==48 || c==49):=by
 by_cases h:c=48
 ·subst h;decide +kernel
 by_cases h2:c=49
 ·subst h2;decide +kernel
 rw[beq_false_of_ne h,beq_false_of_ne h2];have e:∀d:Nat,c≠d->decide (({#[c]}:Str)={#[d]})=false:=λd n=>QY λz=>n (by cases z;rfl);show (decide (({#[c]}:Str)={#[48]}) || (decide (({#[c]}:Str)={#[49]}) || false))=false;rw[e 48 h,e 49 h2];rfl
section
theorem ue:FnScope ["thing", "many"] ["thing", "many"] (aB (top 7)):=by fin2
variable {fd:FuncData} {f:Addr}
theorem AA (Fu:Fun K "is_row" "is_row" (top 7) f fd) (T:Txt K mg TT):FnOk P w K mg base CX0 1 f fd ["thing", "many"] yP:=by
 have S:=ue;refine Fu.ok S (by room) (λcdv A outer s H vs Q E hr h=>?_);obtain⟨z,m,rfl,hz,k⟩:=h
 refine{_,(pss_cons (ps_if (PW.pt (ij (fv (eA (aE cW (by rfl) T.n_isinstance Xw (aa (pv 0) (aa (gt (v:=.ty "str") (by rfl) T.n_str PyProof.Rows.boot_str rfl) ad))))) (fP (aM ku (aE fD (by rfl) T.n_len QJ (aa (pv 0) ad)) (pv 1) (aP _))))) (a9 (aK eB)) pss_nil)
  (a9 (aK (aE (gb rfl) (by rfl) T.n_all PyProof.Rows.boot_all (aa (dq "sign" [] (Ad (pv 0)) (λ_ _ _ _=>(dY (uq T.tab) (pv 0) (sW (v:=.ref TT) (by rfl) T.tURNED rfl) rfl))) ad))))),?_}
 x_go;lk;refine{_,_,_,_,rfl,TyOf.str z,fX "str", ?_};refine{_,rfl,di ?_};have big:1000<sizeLine:=by decide
 lk;refine{_,rfl,⋯,?_};lk;by_cases cz:z.length=m
 case neg =>
  refine ifT (by rw[QY λh=>cz (by injection h with h;omega)];rfl) ?_;lk
  have e:stB m z=false:=by
   unfold stB;rw[QY (show ¬z.cps.size=m from cz)];rfl
  have:=k H (ao.refl _);rwa [e]at this
 refine ifF (by rw[cz];simp) ?_;lk;refine bR ?_;lk;intro D hD;let I1:IvC:=λn H' ys=>ao H H'/\H' D=some (.lst ys)/\ys=((z.cps.toList.take n).map λc=>c==48 || c==49).map V.bl;refine w6 I1 {ag hD,af,rfl} (λn H' ys p=>p.2.1) (λn H' ys hn p=>?_) (λH' ys p=>?_)
 ·obtain⟨Sm,hd,rfl⟩:=p;refine az {trivial,i_yes (b9 ?_)};refine aV (aj rfl (i_c {_,rfl,rfl,?_}));have zl:z.cps.size=z.length:=rfl;refine b8.mk hd hn (by rw[Qa,Qa,Qv];omega) {aN Sm hD,af,?_}
  have e:z.cps.toList[n]?=some (z.cps.getD n 0):=by
   rw[QA,Q5 hn];simp[Array.getD,hn]
  rw[QV,e,XT,Qt,Qt];exact congrArg (λb=>((z.cps.toList.take n).map λc=>c==48 || c==49).map V.bl++[V.bl b]) (AR _)
 obtain⟨Sm,hd,rfl⟩:=p;refine aC {_,_,rfl,SqL.of hd,?_}
 have e:(((z.cps.toList.take z.cps.size).map λc=>c==48 || c==49)).all id=stB m z:=by
  unfold stB;rw[Xc (show z.cps.size=m from cz),Bool.true_and,List.all_map,Qw (by rw[Qs];exact Qh _)];rfl
 rw[e];exact k H' Sm
theorem jW:FnScope ["net", "thing"] ["net", "thing"] (aB (top 10)):=by fin2
theorem xZ (Fu:Fun K "is_standing" "is_standing" (top 10) f fd) (T:Txt K mg TT) (f_is_row:Fn P w K mg base "is_row" ["thing", "many"] 1 yP):FnOk P w K mg base CX0 2 f fd ["net", "thing"] nw:=by
 have S:=jW;refine Fu.ok S (by room) (λcdv A outer s H vs Q E hr h=>?_);obtain⟨a,li,lg,ins,gvs,gs,z,rfl,NA,ok,st,k⟩:=h;obtain⟨ha,hi,hg,gts⟩:=id NA;refine{_,(a9 (aK (aS f_is_row hr (aa (pv 1) (aa (ap aO (aE aI (by rfl) T.n_len QJ (aa (aD bg (pv 0) ae) ad)) (aE aI (by rfl) T.n_len QJ (aa (aD bg (pv 0) ae) ad))) ad))))),?_};x_go
 have hz:(aq ins gs).length=ins.length+gs.length:=by
  unfold aq;rw[Qk,Qa]
 have lg:=aQ NA.gates;lk;refine{z,(aq ins gs).length,?_,st,λH' Sm=>k H' Sm};rw[Qa,lg,hz];rfl
theorem ig:FnScope ["net", "thing"] ["net", "thing"] (aB (top 11)):=by fin2
theorem wm (Fu:Fun K "check_standing" "check_standing" (top 11) f fd) (T:Txt K mg TT) (f_is_standing:Fn P w K mg base "is_standing" ["net", "thing"] 2 nw):FnOk P w K mg base CX0 3 f fd ["net", "thing"] (ny .non):=by
 have S:=ig;refine Fu.ok S (by room) (λcdv A outer s H vs Q E hr h=>?_);obtain⟨a,li,lg,ins,gvs,gs,z,rfl,NA,ok,st,k⟩:=h;refine{_,(a9 (ps_if (fv (eA (aS f_is_standing hr (aa (pv 0) (aa (pv 1) ad))))) uh pss_nil)),?_};x_go;lk;have w11:(aq ins gs).length<=11:=by unfold aq;rw[Qk,Qa];have:=ok.i4;have:=ok.g7;omega
 have zl:z.length=(aq ins gs).length:=st.len;refine{a,li,lg,ins,gvs,gs,z,rfl,NA,ok,⋯,λH' Sm=>{_,rfl,?_} };rw[nr.mpr st];exact di (k H' Sm)
def gi (d:Nat):Sp:=λvs H Q _=>∃v a kvs r ns g,vs=[v,.ref a]/\RAt H v r/\r.dep<=d/\r.ok ns/\H a=some (.dK kvs)/\DFn kvs ns g/\Q (.bl (r.val g)) H
theorem gU {k:Nat} {ps:List Str} {sp:Sp} (h:∀vs H Q E,sp vs H Q E->False):FnOk P w K mg base CX0 k f fd ps sp :=
 {λvs H Q E q=>(h vs H Q E q).elim,λ_ _ _ _ _ _ vs Q E _ _ _ _ q=>(h _ _ _ _ q).elim}
theorem tJ (r:Rl):1<=r.dep:=by cases r <;> simp[Rl.dep]
theorem qY (b:Bool):decide (sg b=V.str "1")=b:=by
 cases b
 ·decide +kernel
 decide +kernel
theorem lN:FnScope ["rule", "signs", "kind"] ["rule", "signs"] (aB (top 12)):=by fin2
theorem qg {f:Addr} {fd:FuncData} (Fu:Fun K "rule_holds" "rule_holds" (top 12) f fd) (T:Txt K mg TT) (hm:mg "rule_holds" = some (.ref f)) (hk:PySem.W.keepIn K (.ref f)=true) (hb:gJ K fd ["rule", "signs"] []):∀d,FnOk P w K mg base CX0 d f fd ["rule", "signs"] (gi d)
 | 0=>gU λvs H Q E ⟨v,a,kvs,r,ns,g,_,_,h,_⟩=>by have:=tJ r;omega
 | d+1=>by
  have S:=lN;have f_rule_holds:Fn P w K mg base "rule_holds" ["rule", "signs"] d (gi d):={f,fd,qg Fu T hm hk hb d,hm,hk,hb};refine Fu.ok S (λvs H Q E h=>?_) (λcdv A outer s H vs Q E hr h=>?_)
  ·obtain⟨v,a,kvs,r,ns,g,rfl,_⟩:=h;rfl
  obtain⟨v,a,kvs,r,ns,g,rfl,ra,hd,rok,ha,hf,q⟩:=h;have hu:=du hr
  refine{_,(pss_cons (aF 2 S.nd (aD bg (pv 0) ae))
  (pss_cons (ps_if (aM cH (pv 2) aU (aP _)) (a9 (aK (dY cH (bG hu (pv 1) (aD bg (pv 0) ae)) aU (aP _)))) pss_nil)
  (pss_cons (ps_if (aM cH (pv 2) aU (aP _)) (a9 (aK (rf (aS f_rule_holds hr (aa (aD bg (pv 0) ae) (aa (pv 1) ad)))))) pss_nil)
  (pss_cons (ps_if (aM cH (pv 2) aU (aP _)) (a9 (aK (fU (aS f_rule_holds hr (aa (aD bg (pv 0) ae) (aa (pv 1) ad))) (fS (aS f_rule_holds hr (aa (aD bg (pv 0) ae) (aa (pv 1) ad))))))) pss_nil)
  (a9 (aK (y_ (aS f_rule_holds hr (aa (aD bg (pv 0) ae) (aa (pv 1) ad))) (fS (aS f_rule_holds hr (aa (aD bg (pv 0) ae) (aa (pv 1) ad))))))))))),?_}
  x_go
  cases ra with
  | @w b n hb =>
   lk;refine ifT (by decide +kernel) ?_;lk;have hv:bh kvs (Sum.inr n:Key)=some (sg (g n)):=hf n rok;refine{a,sg (g n),rfl,by rw[<-hv];exact cK.k (k:=Sum.inr n) ha,?_};lk;refine i_eq (by cases g n <;> rfl) ?_;rw[qY];exact q
  | @no b u r hb hr1 =>
   lk;refine ifF (by decide +kernel) ?_;lk;refine ifT (by decide +kernel) ?_;lk;exact{u,a,kvs,r,ns,g,rfl,hr1,by simp only[Rl.dep]at hd;omega,rok,ha,hf,⟨_,rfl,q⟩}
  | @an b u x r1 r2 hb hr1 hr2 =>
   lk;refine ifF (by decide +kernel) ?_;lk;refine ifF (by decide +kernel) ?_;lk;refine ifT (by decide +kernel) ?_;lk;simp only[Rl.dep]at hd;refine{u,a,kvs,r1,ns,g,rfl,hr1,⋯,rok.1,ha,hf,{_,rfl,?_} };have e:Rl.val g (Rl.an r1 r2)=(r1.val g&&r2.val g):=rfl;rw[e]at q
   cases hv:r1.val g with
   | false=>rw[hv]at q;exact di q
   | true =>
   rw[hv]at q;refine b9 ?_;lk;exact{x,a,kvs,r2,ns,g,rfl,hr2,⋯,rok.2,ha,hf,q}
  | @orr b u x r1 r2 hb hr1 hr2 =>
  lk;refine ifF (by decide +kernel) ?_;lk;refine ifF (by decide +kernel) ?_;lk;refine ifF (by decide +kernel) ?_;lk;simp only[Rl.dep]at hd;refine{u,a,kvs,r1,ns,g,rfl,hr1,⋯,rok.1,ha,hf,{_,rfl,?_} };have e:Rl.val g (Rl.orr r1 r2)=(r1.val g || r2.val g):=rfl;rw[e]at q
  cases hv:r1.val g with
  | true=>rw[hv]at q;exact b9 q
  | false =>
  rw[hv]at q;refine di ?_;lk;exact{x,a,kvs,r2,ns,g,rfl,hr2,⋯,rok.2,ha,hf,q}
def sH (d:Nat):Sp:=λvs H Q _=>∃v a kvs r ns g,vs=[v,.ref a]/\RAt H v r/\r.dep<=d/\r.ok ns/\H a=some (.dK kvs)/\DFn kvs ns g/\Q (sg (r.val g)) H
theorem lM:FnScope ["rule", "signs"] ["rule", "signs"] (aB (top 13)):=by fin2
theorem v9 (Fu:Fun K "rule_worth" "rule_worth" (top 13) f fd) (T:Txt K mg TT) (f_rule_holds:Fn P w K mg base "rule_holds" ["rule", "signs"] 10 (gi 10)):FnOk P w K mg base CX0 11 f fd ["rule", "signs"] (sH 10):=by
 have S:=lM;refine Fu.ok S (by room) (λcdv A outer s H vs Q E hr h=>?_);obtain⟨v,a,kvs,r,ns,g,rfl,ra,hd,rok,ha,hf,q⟩:=h;refine{_,(a9 (aK (vT (eA (aS f_rule_holds hr (aa (pv 0) (aa (pv 1) ad)))) aU aU))),?_};x_go;lk;refine{v,a,kvs,r,ns,g,rfl,ra,hd,rok,ha,hf,{_,rfl,?_} }
 cases hv:r.val g with
 | true=>rw[hv]at q;exact b9 q
 | false=>rw[hv]at q;exact di q
end
theorem fF {k:Key}:∀{qs kvs:List (Key × V)},k∉qs.map (·.1)->bh (bH kvs qs) k=bh kvs k
 | [],kvs,_=>rfl
 | q::qs,kvs,h=>by
  simp only[QM,QO,not_or]at h;show bh (bH (cr kvs q.1 q.2) qs) k=_;rw[fF h.2,o_,QI h.1]
theorem fL {k:Key} {v:V}:∀{qs kvs:List (Key × V)},(qs.map (·.1)).Nodup->(k,v)∈qs->bh (bH kvs qs) k=some v
 | [],kvs,_,h=>nomatch h
 | q::qs,kvs,nd,h=>by
  rw[QM,Q4]at nd;show bh (bH (cr kvs q.1 q.2) qs) k=_;rcases QO.mp h with e|h
  ·subst e;rw[fF nd.1,o_,QL rfl]
  exact fL nd.2 h
theorem oW (ns:List Str) (z:Str):(cZ ns z).map (·.1)=ns.map Sum.inr:=by
 unfold cZ;rw[QT];have e:((λx:Key × V=>x.1)∘λp:Str × Nat=>((Sum.inr p.1:Key),fI z p.2))=(λp:Str × Nat=>(Sum.inr p.1:Key)):=rfl;rw[e];have e2:(λp:Str × Nat=>(Sum.inr p.1:Key))=(Sum.inr:Str->Key)∘Prod.fst:=rfl;rw[e2,<-QT,List.zipIdx_map_fst]
theorem uH (h:ns.Nodup):(ns.map (Sum.inr:Str->Key)).Nodup:=by
 induction ns with
 | nil=>exact List.nodup_nil
 | cons a r ih =>
 rw[Q4]at h;rw[QM,Q4];refine{λm=>?_,ih h.2};obtain⟨x,hx,e⟩:=Qj.mp m;cases e;exact h.1 hx
theorem ju (st:StOk n z) (hi:i<n):fI z i=sg (z.cps.getD i 0==49):=by
 have hl:=st.len;have e:z.cps.getD i 0=z.cps[i]'⋯:=by simp[Array.getD,hl,hi]
 have:z.cps.getD i 0=48\/z.cps.getD i 0=49:=by
  rw[e];exact st.signs _ (by simp)
 unfold fI;rcases this with e|e
 ·rw[e];decide +kernel
 rw[e];decide +kernel
theorem tI (nd:ns.Nodup) (st:StOk ns.length z):DFn (bH [] (cZ ns z)) ns (sgn ns z):=λn hn=>by
 have hi:ns.idxOf n<ns.length:=List.idxOf_lt_length_of_mem hn;have e:ns[ns.idxOf n]?=some n:=by rw[Qc hi];exact congrArg some (List.getElem_idxOf hi)
 have hm:((Sum.inr n:Key),fI z (ns.idxOf n))∈cZ ns z:=by
  unfold cZ;refine Qj.mpr {(n,ns.idxOf n),?_,rfl};rw[List.mem_zipIdx_iff_getElem?];exact e
 rw[fL (by rw[oW];exact uH nd) hm,ju st hi];rfl
def mx:Sp:=λvs H Q _=>∃a li lg ins gvs gs z,vs=[.ref a,.str z]/\NAt H a li lg ins gvs gs/\NetOk ins gs/\StOk (aq ins gs).length z /\
 ∀d H' kvs,ao H H'->H' d=some (.dK kvs)->DFn kvs (aq ins gs) (sgn (aq ins gs) z)->Q (.ref d) H'
section
theorem pH:FnScope ["net", "standing"] ["net", "standing"] (aB (top 14)):=by fin2
theorem rm {f:Addr} {fd:FuncData} (Fu:Fun K "signs_in" "signs_in" (top 14) f fd) (T:Txt K mg TT) (f_wires_of:Fn P w K mg base "wires_of" ["net"] 2 sI):FnOk P w K mg base CX0 3 f fd ["net", "standing"] mx:=by
 have S:=pH;refine Fu.ok S (by room) (λcdv A outer s H vs Q E hr h=>?_);obtain⟨a,li,lg,ins,gvs,gs,z,rfl,NA,ok,st,k⟩:=h;refine{_,(a9 (aK (sX rfl (by rfl) T.n_dict (by rfl) T.n_zip (aa (aS f_wires_of hr (aa (pv 0) ad)) (aa (pv 1) ad))))),?_};x_go
 have wl:(aq ins gs).length<1000:=by
  have i4:=ok.i4;have g7:=ok.g7;unfold aq;rw[Qk,Qa];omega
 lk;show bj _ _ _ _ _;lk;refine{a,li,lg,ins,gvs,gs,rfl,NA,ok,λl H1 S1 hl h1=>?_};lk;refine{l,aq ins gs,z,rfl,SqL.of h1,by rw[st.len];omega,wl,λd hd=>?_};exact k d _ _ (S1.trans (ag hd)) af (tI ok.nd st)
end
def dS (z:Str) (i:Nat):Str:=if (z.cps.getD i 0==49)=true then "0" else "1"
def fH (z:Str) (i:Nat):Str:=(Txt.slice z none (some (i:Int))++dS z i)++Txt.slice z (some ((i:Int)+1)) none
def pj:Sp:=λvs H Q _=>∃(z:Str) (n i:Nat),vs=[.str z,.int (i:Int)]/\StOk n z/\i<n/\n<=11/\Q (.str (fH z i)) H
section
theorem oM {n:Nat} {z:Str} (st:StOk n z) {i:Nat} (hi:i<n):atI z.cps.toList ((i:Nat):Int)=some (z.cps.getD i 0):=by
 have hl:=st.len;refine bQ ?_;simp[Array.getD,hl,hi]
theorem nC:FnScope ["standing", "place"] ["standing", "place"] (aB (top 15)):=by fin2
theorem uw {f:Addr} {fd:FuncData} (Fu:Fun K "turned_at" "turned_at" (top 15) f fd) (T:Txt K mg TT):FnOk P w K mg base CX0 1 f fd ["standing", "place"] pj:=by
 have S:=nC;refine Fu.ok S (by room) (λcdv A outer s H vs Q E hr h=>?_);obtain⟨z,n,i,rfl,st,hi,hn,k⟩:=h;refine{_,(a9 (aK (ap bP (ap bP (a8 eR (pv 0) bt (br (pv 1))) (aD (yk T.tab) (sW (v:=.ref TT) (by rfl) T.tURNED rfl) (aD eV (pv 0) (pv 1)))) (a8 eR (pv 0) (br (ap aO (pv 1) ae)) bt)))),?_};x_go;have hz:z.length=n:=st.len;have big:1000<sizeLine:=by decide
 lk;have s1:=XO z none (some (i:Int));have s2:=XO z (some ((i:Int)+1)) none
 have fl:(dS z i).length=1:=by
  unfold dS
  split
  ·decide +kernel
  decide +kernel
 refine jb ⋯ ?_;refine aV (i_c ?_);refine aV (aj rfl (aj rfl (gF ⋯ (oM st hi) ?_)));have e:=ju st hi;unfold fI at e;rw[e]
 have step:∀(b:Bool) (G:VK),G (.str (if b=true then "0" else "1")) H->sQ TT (.ref TT) (sg b) H G:=λb G g=>by
  cases b
  ·exact{rfl,.inl ⟨rfl,g⟩}
  exact{rfl,.inr ⟨rfl,g⟩}
 refine step _ _ ?_;show ∃i_1 j,V.str _=V.str i_1/\V.str (dS z i)=V.str j/\_;have l1:(Txt.slice z none (some (i:Int))++dS z i).length=(Txt.slice z none (some (i:Int))).length+(dS z i).length:=Xu;refine{_,_,rfl,rfl,⋯,?_};lk;refine jb ⋯ ?_;exact{_,_,rfl,rfl,by rw[l1];omega,k}
end
theorem kR {xs:Array Nat}:∀(j a:Nat),a+j<=xs.size->((List.range j).map λk=>a+k).filterMap (xs[·]?)=(xs.toList.drop a).take j
 | 0,a,_=>by simp
 | j+1,a,h=>by
  rw[List.range_succ,Qt,List.filterMap_append,kR j a ⋯,QV];have e:(xs.toList.drop a)[j]?=xs[a+j]?:=by rw[List.getElem?_drop];simp
  rw[e];have q:xs[a+j]?=some (xs[a+j]'⋯):=by rw[Q5]
  simp[q]
theorem jS {a b:Nat} {lo hi:Option Int} (hl:PySem.Builtin.Str.strSliceIndices lo hi 1 z.length=(List.range (b-a)).map λk=>a+k) (hb:b<=z.cps.size) (hab:a<=b):(Txt.slice z lo hi).cps.toList=(z.cps.toList.drop a).take (b-a):=by
 unfold Txt.slice;rw[hl]
 split
 ·rename_i h
  have h:b-a=z.length:=by simpa using h
  have h':z.length=z.cps.size:=rfl;have a0:a=0:=by omega
  subst a0;rw[List.drop_zero,Qw (by rw[Qs];omega)]
 exact kR (b-a) a ⋯
theorem jR {z:Str} {j:Nat} (h:j<=z.cps.size):(Txt.slice z none (some (j:Int))).cps.toList=z.cps.toList.take j:=by
 have h':z.length=z.cps.size:=rfl;refine(jS (a:=0) (b:=j) ?_ h (QG _)).trans (by simp);unfold PySem.Builtin.Str.strSliceIndices sliceRange
 have e:max 0 (min (if (j:Int)<0 then (j:Int)+z.length else (j:Int)) (z.length:Int))=(j:Int):=by
  rw[QI (Int.not_lt.mpr (Int.natCast_nonneg _)),Int.min_eq_left (show _<=(z.length:Int) from Int.ofNat_le.mpr h),Int.max_eq_right (Int.natCast_nonneg _)]
 simp only[show (1:Int)>0 from by decide,if_true,e]
 have c:(if (0:Int)<(j:Int) then ((j:Int)-0+1-1) / 1 else 0).toNat=j-0:=by
  rw[Int.ediv_one,Int.add_sub_cancel,Int.sub_zero,Nat.sub_zero]
  split
  ·rfl
  omega
 rw[c];refine List.map_congr_left λk _=>?_;omega
theorem jT {z:Str} {a:Nat} (h:a<=z.cps.size):(Txt.slice z (some (a:Int)) none).cps.toList=z.cps.toList.drop a:=by
 have h':z.length=z.cps.size:=rfl;refine(jS (a:=a) (b:=z.cps.size) ?_ (Qh _) h).trans (by rw[Qw (by rw[Q9,Qs];omega)]);unfold PySem.Builtin.Str.strSliceIndices sliceRange
 have e:max 0 (min (if (a:Int)<0 then (a:Int)+z.length else (a:Int)) (z.length:Int))=(a:Int):=by
  rw[QI (Int.not_lt.mpr (Int.natCast_nonneg _)),Int.min_eq_left (show _<=(z.length:Int) from Int.ofNat_le.mpr h),Int.max_eq_right (Int.natCast_nonneg _)]
 simp only[show (1:Int)>0 from by decide,if_true,e]
 have c:(if (a:Int)<(z.length:Int) then ((z.length:Int)-(a:Int)+1-1) / 1 else 0).toNat=z.cps.size-a:=by
  rw[Int.ediv_one,Int.add_sub_cancel,h']
  split
  ·rw[<-Int.ofNat_sub h];rfl
  omega
 rw[c];refine List.map_congr_left λk _=>?_;omega
theorem sw (st:StOk n z) (hi:i<n):StOk n (fH z i):=by
 have hl:=st.len;have a:=jR (z:=z) (j:=i) ⋯;have b:=jT (z:=z) (a:=i+1) ⋯;rw[show ((i+1:Nat):Int)=(i:Int)+1 from ⋯]at b
 have f:(dS z i).cps.toList=[48]\/(dS z i).cps.toList=[49]:=by
  unfold dS
  split
  ·exact .inl (by decide +kernel)
  exact .inr (by decide +kernel)
 have e:(fH z i).cps.toList=(z.cps.toList.take i++(dS z i).cps.toList)++z.cps.toList.drop (i+1):=by
  unfold fH;show ((_++_)++_:Array Nat).toList=_;rw[QP,QP,a,b]
 refine{?_,λc hc=>?_}
 ·rw[<-Qs,e,Qk,Qk,Qv,Q9,Qs];have:(dS z i).cps.toList.length=1:=by rcases f with f|f <;> rw[f] <;> rfl
  omega
 rw[e]at hc;rcases Qp.mp hc with h|h
 ·rcases Qp.mp h with h|h
  ·exact st.signs c (List.mem_of_mem_take h)
  rcases f with f|f
  ·rw[f]at h;exact .inl (by simpa using h)
  rw[f]at h;exact .inr (by simpa using h)
 exact st.signs c (List.mem_of_mem_drop h)
theorem turn_list (st:StOk n z) (hi:i<n):(fH z i).cps.toList=z.cps.toList.take i++(if (z.cps.getD i 0==49)=true then 48 else 49)::z.cps.toList.drop (i+1):=by
 have hl:=st.len;have a:=jR (z:=z) (j:=i) ⋯;have b:=jT (z:=z) (a:=i+1) ⋯;rw[show ((i+1:Nat):Int)=(i:Int)+1 from ⋯]at b
 have f:(dS z i).cps.toList=[if (z.cps.getD i 0==49)=true then 48 else 49]:=by
  unfold dS
  split
  ·decide +kernel
  decide +kernel
 unfold fH;show ((_++_)++_:Array Nat).toList=_;rw[QP,QP,a,b,f];simp
def cC (f:Str->Bool) (z:Str) (p:(Str × Rl) × Nat):Option (Str × Str):=if (p.1.2.val f==(z.cps.getD p.2 0==49))=true then none else some (p.1.1,fH z p.2)
def au (ins:List Str) (gs:F5) (z:Str):List (Str × Str):=(gs.zipIdx ins.length).filterMap (cC (sgn (aq ins gs) z) z)
def oU (H:Hp) (v:V) (p:Str × Str):Prop:=∃b,v=.ref b/\H b=some (.tup [.str p.1,.str p.2])
variable {v:V}
theorem oU.mono (hs:dy H H') {p:Str × Str} (h:oU H v p):oU H' v p:=let ⟨b,e,q⟩:=h;{b,e,hs _ _ q}
theorem cE {H H':Hp} (hs:dy H H'):∀{vs:List V} {ps:List (Str × Str)},Paired (oU H) vs ps->Paired (oU H') vs ps
 | _,_,.nil=>.nil
 | _,_,.cons h t=>.cons (h.mono hs) (cE hs t)
theorem c_ {α β:Type} {F:α->β->Prop}:∀{xs:List α} {ys:List β} {x:α} {y:β},Paired F xs ys->F x y->Paired F (xs++[x]) (ys++[y])
 | _,_,_,_,.nil,h=>.cons h .nil
 | _,_,_,_,.cons a t,h=>.cons a (c_ t h)
def eO:Sp:=λvs H Q _=>∃a li lg ins gvs gs z,vs=[.ref a,.str z]/\NAt H a li lg ins gvs gs/\NetOk ins gs/\StOk (aq ins gs).length z /\
 ∀l vs' H',ao H H'->H l=none->H' l=some (.lst vs')->Paired (oU H') vs' (au ins gs z)->Q (.ref l) H'
theorem Bk (a b:Bool):decide (sg a=sg b)=(a==b):=by
 cases a <;> cases b <;> decide +kernel
section
theorem lL:FnScope ["net", "standing", "signs", "steps", "place", "gate"] ["net", "standing"] (aB (top 16)):=by fin2
theorem wb {f:Addr} {fd:FuncData} (Fu:Fun K "steps_from" "steps_from" (top 16) f fd) (T:Txt K mg TT) (f_signs_in:Fn P w K mg base "signs_in" ["net", "standing"] 3 mx) (f_rule_worth:Fn P w K mg base "rule_worth" ["rule", "signs"] 11 (sH 10)) (f_turned_at:Fn P w K mg base "turned_at" ["standing", "place"] 1 pj) :
  FnOk P w K mg base CX0 12 f fd ["net", "standing"] eO:=by
 have S:=lL;refine Fu.ok S (by room) (λcdv A outer s H vs Q E hr h=>?_);obtain⟨a,li,lg,ins,gvs,gs,z,rfl,NA,ok,st,k⟩:=h
 refine{_,(pss_cons (aF 2 S.nd (aS f_signs_in hr (aa (pv 0) (aa (pv 1) ad))))
  (pss_cons (aF 3 S.nd (aY ad))
  (pss_cons (ps_for PassesOwn.never rfl (vQ (by rfl) T.n_enumerate (aa (aD bg (pv 0) ae) ad) (xI (aE aI (by rfl) T.n_len QJ (aa (aD bg (pv 0) ae) ad)) Ac)) (fR rfl (bC (bO 4 S.nd) (bC (bO 5 S.nd) dX)))
  (a9 (ps_if (aM ku (aS f_rule_worth hr (aa (aD bg (pv 5) ae) (aa (pv 2) ad))) (aD eV (pv 1) (pv 4)) (aP _)) (a9 (bB (cL QB QC QE a7 (pv 3) (aa (bq (aa (aD bg (pv 5) ae) (aa (aS f_turned_at hr (aa (pv 1) (aa (pv 4) ad))) ad))) ad)))) pss_nil)))
  (a9 (aK (pv 3)))))),?_}
 x_go;have i4:=ok.i4;have g7:=ok.g7;have lgn:=aQ NA.gates;have wl:(aq ins gs).length=ins.length+gs.length:=by unfold aq;rw[Qk,Qa]
 have big:1000<sizeLine:=by decide
 lk;refine{a,li,lg,ins,gvs,gs,z,rfl,NA,ok,st,λd H1 kvs S1 hd df=>?_};lk;refine{by simp[sizeLine],λl hl=>?_};generalize hE:upd _ l _=H2;have S2:ao H1 H2:=by rw[<-hE];exact ag hl
 have q2:H2 l=some (.lst []):=by rw[<-hE];exact af
 clear hE;have S12:=S1.trans S2;have hlH:H l=none:=ao.free S1 hl;have NA2:=NA.same S12;have hd2:=S2 _ _ hd;have dl:d≠l:=aG hd hl;obtain⟨ha,hi,hg,gts⟩:=id NA2;lk;show bj _ _ _ _ _;lk;refine{lg,_,rfl,rfl,by rw[Qa];omega,{_,SqL.of hg},?_};have nlg:lg≠l:=aG NA.hg hlH;let I2:IvF:=λi U H'=>(∃x4 x5 vs',U=[some (.ref a),some (.str z),some (.ref d),some (.ref l),x4,x5]/\H' l=some (.lst vs')/\vs'.length<=i/\Paired (oU H') vs' (((gs.zipIdx ins.length).take i).filterMap (cC (sgn (aq ins gs) z) z)))/\ao H H'/\H' d=some (.dK kvs)
 refine uW (xs:=gvs) I2
  { {_,_,[],rfl,q2,by simp,by simp;exact .nil},S12,hd2} (λi U H' _ pv=>SqL.of (pv.2.1 _ _ NA.hg)) (λi x U H' t hx pv ht=>?_) (λU H' pv=>?_)
 ·obtain⟨⟨x4,x5,vs',rfl,hl',hlen,hp⟩,SS,hd'⟩:=pv;have hig:i<gvs.length:=(Qe.mp hx).1;obtain⟨g,hgi,b,rv,rfl,hb,hrv⟩:=dB NA.gates i x hx;have S3:=ag (o:=.tup [.int (((ins.map V.str).length:Int)+(i:Nat)),.ref b]) ht;refine{t,_,rfl,SqT.of af,rfl,?_};refine{_,_,rfl,az {_,_,rfl,az ?_} };have hl3:=S3 _ _ hl';have hd3:=S3 _ _ hd';have SS3:=SS.trans S3;have hp3:=cE (ao.tups S3) hp;generalize upd H' t (.tup [.int (((ins.map V.str).length:Int)+(i:Nat)),.ref b])=H3 at *;have hb3:=SS3 _ _ hb;have hr3:=hrv.mono (ao.tups SS3);have gm:g∈gs:=Qg hgi;have ep:(((ins.map V.str).length:Int)+(i:Nat))=((ins.length+i:Nat):Int):=by rw[Qa];omega
  rw[ep];obtain⟨rok,rdep⟩:=ok.rules g gm;have hpl:ins.length+i<(aq ins gs).length:=by omega
  have hzi:(gs.zipIdx ins.length)[i]?=some (g,ins.length+i):=by rw[List.getElem?_zipIdx,hgi];rfl
  refine{rfl,?_};lk;refine{rv,d,kvs,g.2,_,_,rfl,hr3,rdep,rok,hd3,df,?_};generalize hv:g.2.val (sgn (aq ins gs) z)=bv;have e:=ju st hpl;unfold fI at e;have zl:z.length=(aq ins gs).length:=st.len;lk;refine gF ⋯ (oM st hpl) ?_;rw[e];refine i_ne (by cases bv <;> cases (z.cps.getD (ins.length+i) 0==49) <;> rfl) ?_;rw[Bk];refine{_,rfl,?_}
  have tk:((gs.zipIdx ins.length).take (i+1)).filterMap (cC (sgn (aq ins gs) z) z)=((gs.zipIdx ins.length).take i).filterMap (cC (sgn (aq ins gs) z) z)++(cC (sgn (aq ins gs) z) z (g,ins.length+i)).toList:=by
   rw[QV,hzi,List.filterMap_append];cases h:cC (sgn (aq ins gs) z) z (g,ins.length+i) <;> simp[h]
  have so:cC (sgn (aq ins gs) z) z (g,ins.length+i)=if (bv==(z.cps.getD (ins.length+i) 0==49))=true then none else some (g.1,fH z (ins.length+i)):=by
   unfold cC;rw[hv]
  cases hc:(bv==(z.cps.getD (ins.length+i) 0==49)) with
  | true =>
   refine di ?_;rw[hc]at so;refine{ {_,_,vs',rfl,hl3,⋯,?_},SS3,hd3};rw[tk,so];simpa using hp3
  | false =>
  refine b9 ?_;rw[hc]at so;lk;refine{z,_,ins.length+i,rfl,st,hpl,⋯,?_};lk;refine{by simp[sizeLine],λq hq=>?_};generalize hE:upd _ q _=H4;have S4:ao H3 H4:=by rw[<-hE];exact ag hq
  have q4:H4 q=some (.tup [.str g.1,.str (fH z (ins.length+i))]):=by rw[<-hE];exact af
  clear hE;have hl4:=S4 _ _ hl3;have hd4:=S4 _ _ hd3;have nql:q≠l:=λe=>by rw[e,hl3]at hq;cases hq
  lk;refine dr hl4 ⋯ ?_
  have kt:dy H4 (upd H4 l (.lst (vs'++[.ref q]))):=λb xs e=>by
   have:b≠l:=λx=>by rw[x,hl4]at e;cases e
   rw[am this];exact e
  refine{ {_,_,vs'++[.ref q],rfl,af,by simp;omega,?_},aN (SS3.trans S4) hlH,by rw[am dl];exact hd4};rw[tk,so];exact c_ (cE kt (cE (ao.tups S4) hp3)) {q,rfl,kt _ _ q4}
 obtain⟨⟨x4,x5,vs',rfl,hl',hlen,hp⟩,SS,hd'⟩:=pv;refine ck (te:=bV 3) (D:={ nx:=λx H'=>Q V.non H',rt:=Q }) (aj rfl ?_);refine k l vs' H' SS hlH hl' ?_;have e:(gs.zipIdx ins.length).length=gvs.length:=by rw[List.length_zipIdx,lgn]
 rw[<-e,List.take_length]at hp;exact hp
end
def bA (H:Hp) (a:Addr) (sts:List (V × Key)):Prop:=∃vs,H a=some (.lst vs)/\Paired (λv (s:V × Key)=>∃b,v=.ref b/\H b=some (.tup [s.1,kV s.2])) vs sts
theorem bA.same {sts:List (V × Key)} (S:ao H H') (h:bA H a sts):bA H' a sts:=by
 obtain⟨vs,h1,h2⟩:=h;exact{vs,S _ _ h1,bX (λv s ⟨b,e,q⟩=>{b,e,S _ _ q}) h2}
def mf (F W N:Addr) (H H':Hp):Prop:=∀b o,H b=some o->b≠F->b≠W->b≠N->H' b=some o
def fdK (xs:List Key) (as:F4):List (Key × V):=(xs.zip as).map λp=>(p.1,V.ref p.2)
def knK (xs:List Key):List (Key × V):=xs.map λx=>(x,V.bl true)
theorem oC {xs:List Key} {as:F4} (h:as.length<=xs.length):(fdK xs as).length=as.length:=by
 unfold fdK;rw[Qa,List.length_zip];omega
theorem iy (xs:List Key) (as:F4):(fdK xs as).map (·.1)=xs.take as.length:=by
 unfold fdK;rw[QT];show (xs.zip as).map (λp=>p.1)=_
 induction xs generalizing as with
 | nil=>simp
 | cons x xs ih =>
 cases as with
 | nil=>simp
 | cons a as=>simp[ih]
variable {as ls ts:F4}
theorem wQ {xs:List Key} {x:Key} (h:xs[as.length]?=some x):fdK xs (as++[a])=fdK xs as++[(x,V.ref a)]:=by
 unfold fdK
 induction xs generalizing as with
 | nil=>simp at h
 | cons y xs ih =>
 cases as with
 | nil=>simp at h;subst h;simp
 | cons b as=>simp at h;simp[ih h]
theorem wS {xs ys:List Key} (h:as.length<=xs.length) (p:xs <+: ys):fdK ys as=fdK xs as:=by
 obtain⟨t,rfl⟩:=p;unfold fdK
 induction xs generalizing as with
 | nil =>
  have:as=[]:=by simpa using h
  subst this;simp
 | cons y xs ih =>
 cases as with
 | nil=>simp
 | cons b as=>simp at h;simpa using ih h
variable {kvs:List (Key × V)}
theorem cS {k:Key}:bh kvs k=none↔k∉kvs.map (·.1):=by
 refine{vf,λh=>?_}
 cases e:bh kvs k with
 | none=>rfl
 | some v=>exact absurd (xt e) h
theorem jA {xs:List Key} {k:Key}:bh (knK xs) k=none↔k∉xs:=by
 rw[cS];unfold knK;rw[QT];show k∉xs.map (λx=>x)↔_;rw[List.map_id']
def nxK (steps:Key->List (V × Key)) (x:Key):List Key:=(steps x).map (·.2)
def nA (P:Program) (w:World) (K:PySem.W.Frag) (mg:F3) (base:Heap) (k:Nat):Sp:=λvs H Q _=>∃(start:Key) (f:Addr) (l:Lm) (cl:List (Str × Addr)) (c:Addr) (r:V->Hp->VK->Prop) (steps:Key->List (V × Key)) (B:Nat),
 vs=[kV start,.ref f]/\H f=some (iX f l cl c)/\Calls P w K mg base k f r/\B<=100000 /\
 (∀x H1 (Q1:VK),Bf.Reach (nxK steps) start x->ao H H1->(∀a H2,ao H1 H2->bA H2 a (steps x)->Q1 (.ref a) H2)->r (kV x) H1 Q1) /\
 (∀xs:List Key,xs.Nodup->(∀x∈xs,Bf.Reach (nxK steps) start x)->xs.length<=B) /\
 ∀(F:Addr) (as:F4) (n:Nat) (H':Hp),ao H H'->H F=none->(Bf.bfs (nxK steps) start n).length=n->as.length=n->H' F=some (.dK (fdK (Bf.bfs (nxK steps) start n) as)) ->
  (∀(i:Nat) x a,(Bf.bfs (nxK steps) start n)[i]?=some x->as[i]?=some a->bA H' a (steps x))->Q (.ref F) H'
variable {te td ty tv tl:TE}
theorem yq {P:Program} {w:World} {mg:F3} {base:Heap} {k:Nat} {c:Addr} {l:Lm} {cl:List (Str × Addr)} {r:V->Hp->VK->Prop} (hi:U[i]?=some (some (.ref f))) (C:Calls P w K mg base k f r) (hf:H f=some (iX f l cl c))
  (q:te U H λv H1=>H1 f=some (iX f l cl c)/\r v H1 Q):vj P w K mg base k i te U H Q:=⟨f,l,cl,c,r,hi,C,hf,q⟩
local macro_rules|`(tactic|ctx_has $a $b $c $d $e $f $g)=>`(tactic|(generalize hE:upd $a $b _=$c;obtain⟨$d,$e⟩:=$f $g hE;clear hE))
section
theorem lV:FnScope ["start", "steps_of", "found", "waiting", "known", "at", "here", "steps", "step"] ["start", "steps_of"] (aB (top 18)):=by fin2
theorem wg {kl:Nat} {f:Addr} {fd:FuncData} (Fu:Fun K "found_from" "found_from" (top 18) f fd) (T:Txt K mg TT):FnOk P w K mg base CX0 (kl+1) f fd ["start", "steps_of"] (nA P w K mg base kl):=by
 have S:=lV;refine Fu.ok S (by room) (λcdv A outer s H vs Q E hr h=>?_);obtain⟨start,fl,l,cl,c,r,steps,B,rfl,hfl,hC,hB,hst,hfew,k⟩:=h;have hu:=du hr;refine'{?_,?bb,?_}
 case bb =>
  walk_at "b";exact aF 2 S.nd il;exact aF 3 S.nd (aY (aa (pv 0) ad ai));exact aF 4 S.nd (xL (vP (pv 0) eB xH) rfl rfl (by simp) (by decide));exact aF 5 S.nd ae;refine' fQ PassesOwn.never ?_ ?_;rotate_left 2;exact(aM kz (pv 5) (aE aI (by rfl) T.n_len QJ (aa (pv 3) ad ai)) (aP _));walk_at "p";exact aF 6 S.nd (aD aH (pv 3) (pv 5));exact aF 7 S.nd (vU (k:=kl) (i:=1) (hr.mono ⋯) zb (pv 1) (pv 6));exact(gq hu (pv 2) (pv 6) (pv 7) rfl);walk_at "f";exact(bx (pv 7));exact(bO 8 S.nd);walk_at "p";exact(iL (d8 hu (aD bg (pv 8) ae) (pv 4)));exact(gq hu (pv 4) (aD bg (pv 8) ae) eB rfl);exact(bB (cL QB QC QE a7 (pv 3) (aa (aD bg (pv 8) ae) ad)));exact(vM (i:=5) S.nd rfl (by z_go) ae wH);exact(aK (pv 2))
 x_go;refine s_seq (bp ?_);intro F hF;refine az ?_;ctx_has H F H1 S1 q1 aJ hF;lk;refine{by simp[sizeLine],λW hW=>?_};ctx_has H1 W H2 S2 q2 aJ hW;lk;refine λN hN=>?_;refine{_,rfl,?_};refine{af,[(start,.bl true)],rfl,by simp,?_};rw[xu];refine az ?_;ctx_has H2 N H3 S3 q3 aJ hN;lk;have S03:ao H H3:=S1.trans (S2.trans S3);have FW:F≠W:=aG q1 hW;have FN:F≠N:=aG (S2 _ _ q1) hN;have WN:W≠N:=aG q2 hN
 have W0:H W=none:=by
  cases e:H W with
  | none=>rfl
  | some o=>rw[S1 _ _ e]at hW;cases hW
 have N0:H N=none:=by
  cases e:H N with
  | none=>rfl
  | some o=>rw[(S1.trans S2) _ _ e]at hN;cases hN
 have off:∀{Ha Hb:Hp},ao H Ha->mf F W N Ha Hb->ao H Hb:=λsa o b u e=>o b u (sa b u e) (aG e hF) (aG e W0) (aG e N0);let nx:=nxK steps;let bf:=Bf.bfs nx start;have reach:∀n x,x∈bf n->Bf.Reach nx start x:=λn x h=>Bf.cX n x h;have fewB:∀n,(bf n).length<=B:=λn=>hfew _ (Bf.cB n) (reach n);let I3:IvF:=λm U H'=>∃(n:Nat) (as:F4) (x6 x7 x8:Option V),U=[some (kV start),some (.ref fl),some (.ref F),some (.ref W),some (.ref N),some (.int (n:Int)),x6,x7,x8]/\m=B+1-n/\n<=(bf n).length/\ao H H'/\H' F=some (.dK (fdK (bf n) as))/\as.length=n/\H' W=some (.lst ((bf n).map kV))/\H' N=some (.dK (knK (bf n)))/\∀(i:Nat) x a,(bf n)[i]?=some x->as[i]?=some a->bA H' a (steps x)
 refine{I3,
  {_,0,[],none,none,none,rfl,rfl,QG _,S03,S3 _ _ (S2 _ _ q1),rfl,S3 _ _ q2,q3,λi x a _ e=>nomatch e},?_}
 rintro m U H' ⟨n,as,x6,x7,x8,rfl,rfl,hn,SH,hF',las,hW',hN',hsts⟩;lk;rw[Qa];by_cases cn:n<(bf n).length
 case neg =>
  refine ifF (QY ⋯) ?_;lk;have e:(bf n).length=n:=by omega
  exact k F as n H' SH hF e las hF' hsts
 refine ifT (Xc ⋯) ?_;let I4:IvJ:=λσ' H''=>∃(as:F4) (x6 x7 x8:Option V),σ'=[some (kV start),some (.ref fl),some (.ref F),some (.ref W),some (.ref N),some (.int ((n+1:Nat):Int)),x6,x7,x8]/\n+1<=(bf (n+1)).length/\ao H H''/\H'' F=some (.dK (fdK (bf (n+1)) as))/\as.length=n+1/\H'' W=some (.lst ((bf (n+1)).map kV))/\H'' N=some (.dK (knK (bf (n+1))))/\∀(i:Nat) x a,(bf (n+1))[i]?=some x->as[i]?=some a->bA H'' a (steps x);refine{I4,λσ' H'' h=>?_,?_}
 ·obtain⟨as,x6,x7,x8,e1,e2,e3,e4,e5,e6,e7,e8⟩:=h;exact{B+1-(n+1),by have:=fewB n;omega,n+1,as,x6,x7,x8,e1,rfl,e2,e3,e4,e5,e6,e7,e8}
 obtain⟨x,hx⟩:∃x,(bf n)[n]?=some x:={_,Qc cn};have hbs:bf (n+1)=Bf.bi (bf n) (nx x):=Bf.fo hx;lk;refine bd (v:=kV x) (SqL.of hW') (bQ (by rw[Qi,hx];rfl)) ?_;lk;refine yq rfl hC (SH _ _ hfl) (aj rfl {SH _ _ hfl,hst x H' _ (reach n x (Qg hx)) SH λa H4 S4 st4=>?_});lk;refine iI (aj rfl (aj rfl (aj rfl ?_)));refine{F,_,rfl,iD.k (k:=x) (S4 _ _ hF') (by rw[oC ⋯];have:=fewB n;omega),?_}
 have pn:cr (fdK (bf n) as) x (V.ref a)=fdK (bf n) (as++[a]):=by
  rw[wQ (by rw[las];exact hx)];refine ee _ (cS.mpr ?_);rw[iy,las];intro hm;obtain⟨i,hi,e⟩:=Qo.mp hm;rw[Qv]at hi;rw[List.getElem_take]at e;have e2:=(Qe.mp hx).2;have:=(List.getElem_inj (Bf.cB (nx:=nx) (s:=start) n)).mp (e.trans e2.symm);omega
 rw[pn]
 obtain⟨vs,ha,pr⟩:=id st4
 have neW:∀{Hx:Hp} {ws:List Key},Hx W=some (.lst (ws.map kV))->ws≠[]->∀{b:Addr} {sts:List (V × Key)},bA Hx b sts->b≠W:=λ{Hx ws} hw ne {b sts} ⟨us,hb,pu⟩ z=>by
  rw[z,hw]at hb;cases hb
  cases ws with
  | nil=>exact ne rfl
  | cons y ws =>
  cases pu with
  | cons h _ =>
  obtain⟨c,e,_⟩:=h;cases y <;> cases e
 have neD:∀{Hx:Hp} {D:Addr} {kvs:List (Key × V)},Hx D=some (.dK kvs)->∀{b:Addr} {sts:List (V × Key)},bA Hx b sts->b≠D:=λ{Hx D kvs} hd {b sts} ⟨us,hb,_⟩ z=>by
  rw[z,hd]at hb;cases hb
 have keepS:∀{Ha Hb:Hp} {ws:List Key} {k1 k2:List (Key × V)},Ha W=some (.lst (ws.map kV))->ws≠[]->Ha F=some (.dK k1)->Ha N=some (.dK k2)->mf F W N Ha Hb->∀{b:Addr} {sts:List (V × Key)},bA Ha b sts->bA Hb b sts:=λ{Ha Hb ws k1 k2} hw ne h1 h2 o {b sts} st=>by
  have n1:=neW hw ne st;have n2:=neD h1 st;have n3:=neD h2 st;obtain⟨us,hb,pu⟩:=st;refine{us,o b _ hb n2 n1 n3,bX (λv s ⟨c,e,q⟩=>{c,e,o c _ q (λz=>?_) (λz=>?_) λz=>?_}) pu}
  ·rw[z,h1]at q;cases q
  ·rw[z,hw]at q;cases q
  rw[z,h2]at q;cases q
 have bne:bf n≠[]:=λz=>by rw[z]at cn;simp at cn
 have hF4:=S4 _ _ hF';have hW4:=S4 _ _ hW';have hN4:=S4 _ _ hN';have off4:mf F W N H4 (upd H4 F (.dK (fdK (bf n) (as++[a])))):=λb o e h1 _ _=>by rw[am h1];exact e
 have hF5:upd H4 F (.dK (fdK (bf n) (as++[a]))) F=some (.dK (fdK (bf n) (as++[a]))):=af;have hW5:upd H4 F (.dK (fdK (bf n) (as++[a]))) W=some (.lst ((bf n).map kV)):=by rw[am FW.symm];exact hW4
 have hN5:upd H4 F (.dK (fdK (bf n) (as++[a]))) N=some (.dK (knK (bf n))):=by rw[am FN.symm];exact hN4
 have st5:=keepS hW4 bne hF4 hN4 off4 st4
 have sts5:∀(i:Nat) y b,(bf n)[i]?=some y->(as++[a])[i]?=some b->bA (upd H4 F (.dK (fdK (bf n) (as++[a])))) b (steps y):=λi y b e1 e2=>by
  by_cases ci:i<as.length
  ·rw[QF ci]at e2;exact keepS hW4 bne hF4 hN4 off4 ((hsts i y b e1 e2).same S4)
  rw[QH ⋯]at e2
  have:i=n:=by
   have:=(Qe.mp e2).1;simp at this;omega
  subst this;rw[hx]at e1;cases e1;rw[las,Nat.sub_self]at e2;cases e2;exact st5
 have SH5:ao H (upd H4 F (.dK (fdK (bf n) (as++[a])))):=off (SH.trans S4) off4;generalize upd H4 F (.dK (fdK (bf n) (as++[a])))=H5 at *;obtain⟨vs5,ha5,pr5⟩:=id st5;refine s_seq (s_for (s_list (aj rfl {a,rfl,{_,SqL.of ha5},?_})));let I5:IvF:=λi σ' H'=>∃x8,σ'=[some (kV start),some (.ref fl),some (.ref F),some (.ref W),some (.ref N),some (.int (n:Int)),some (kV x),some (.ref a),x8]/\mf F W N H5 H'/\H' F=some (.dK (fdK (bf n) (as++[a])))/\H' W=some (.lst ((Bf.bi (bf n) ((nx x).take i)).map kV))/\H' N=some (.dK (knK (Bf.bi (bf n) ((nx x).take i))));refine dO (xs:=vs5) I5 {_,rfl,λb o e _ _ _=>e,hF5,hW5,hN5} (λi σ' H' _ pv=>?_) (λi v σ' H' hv pv=>?_) (λσ' H' pv=>?_)
 ·obtain⟨_,_,o,_⟩:=pv;exact SqL.of (o a _ ha5 (neD hF5 st5) (neW hW5 bne st5) (neD hN5 st5))
 ·obtain⟨x8,rfl,o,e1,e2,e3⟩:=pv;obtain⟨⟨nm,y⟩,hy,b,rfl,hb⟩:=paired_get pr5 hv;have hb':H' b=some (.tup [nm,kV y]):=o b _ hb (λz=>by rw[z,hF5]at hb;cases hb) (λz=>by rw[z,hW5]at hb;cases hb) (λz=>by rw[z,hN5]at hb;cases hb)
  have hny:(nx x)[i]?=some y:=by
   show ((steps x).map (·.2))[i]?=_;rw[Qi,hy];rfl
  have ext:Bf.bi (bf n) ((nx x).take (i+1))=Bf.bi (Bf.bi (bf n) ((nx x).take i)) [y]:=by
   rw[QV,hny,Bf.me];rfl
  have lenN:(Bf.bi (bf n) ((nx x).take i)).length<=B:=hfew _ (Bf.d6 _ _ (Bf.cB n)) λz hz=>by
   rcases(Bf.eJ _ _ _).mp hz with h|h
   ·exact reach n z h
   exact .step (reach n x (Qg hx)) (List.mem_of_mem_take h)
  lk;refine fg (aV (aj rfl (i_c (i_ixT hb' rfl (aj rfl ?_)))));refine{N,_,rfl,cK.k (k:=y) e3,_,rfl,?_};by_cases cy:y∈Bf.bi (bf n) ((nx x).take i)
  ·rw[Bf.lF cy]at ext;refine ifF ?_ ?_
   ·cases e:bh (knK (Bf.bi (bf n) ((nx x).take i))) y with
    | none=>exact absurd cy (jA.mp e)
    | some v=>rfl
   lk;refine{_,rfl,o,e1,?_,?_}
   ·rw[ext];exact e2
   rw[ext];exact e3
  rw[Bf.lE cy]at ext;have nn:=jA.mpr cy;refine ifT (by rw[nn];rfl) ?_;lk;refine iI (i_c (aj rfl (aV (aj rfl (i_c (i_ixT hb' rfl ?_))))));refine{N,_,rfl,iD.k (k:=y) e3 (by unfold knK;rw[Qa];omega),?_};have e2':upd H' N (.dK (cr (knK (Bf.bi (bf n) ((nx x).take i))) y (.bl true))) W=some (.lst ((Bf.bi (bf n) ((nx x).take i)).map kV)):=by rw[am WN];exact e2
  have hb'':upd H' N (.dK (cr (knK (Bf.bi (bf n) ((nx x).take i))) y (.bl true))) b=some (.tup [nm,kV y]):=by rw[am (λz=>by rw[z,e3]at hb';cases hb')];exact hb'
  refine s_drop (i_bm (aj rfl {i_tyL e2',?_}));refine ak (aV (aj rfl (i_c (i_ixT hb'' rfl (aC (dr e2' (by rw[Qa];omega) ?_))))));refine{_,rfl,λc u e h1 h2 h3=>by rw[am h2,am h3];exact o c u e h1 h2 h3,by rw[am FW,am FN];exact e1,?_,?_}
  ·rw[af,ext,Qt];rfl
  rw[am WN.symm,af,ee _ nn,ext];unfold knK;rw[Qt];rfl
 obtain⟨x8,rfl,o,e1,e2,e3⟩:=pv
 have lv:vs5.length=(nx x).length:=by
  show _=((steps x).map (·.2)).length;rw[Qa];exact aQ pr5
 rw[lv,Qw (Qh _),<-hbs]at e2 e3;refine{_,rfl,?_};refine i_c {_,_,rfl,rfl,?_};have pre:bf n <+: bf (n+1):=Bf.lr n
 have l1:n+1<=(bf (n+1)).length:=by
  have:=pre.length_le;omega
 refine{as++[a],_,_,_,by rw[show ((n+1:Nat):Int)=(n:Int)+1 from rfl];rfl,l1,off SH5 o,?_,by rw[Qk,las];rfl,e2,e3,λi y b h1 h2=>?_}
 ·rw[wS (by rw[Qk,las];simp;omega) pre];exact e1
 have hi:i<n+1:=by
  have:=(Qe.mp h2).1;rw[Qk,las]at this;simpa using this
 exact keepS hW5 bne hF5 hN5 o (sts5 i y b (Bf.ke pre ⋯ h1) h2)
end
noncomputable def eT:Lm:=match cJ (top 19) with
 | .Return (some (.Call _ [_,.Lambda p b sc pos] _ _)) _::_=>{("steps_found" ++ ".<locals>.") ++ "<lambda>", p,b,sc,pos}
 | _=>{"", { posonlyargs:=[],args:=[],vararg:=none,kwonlyargs:=[],kw_defaults:=[],kwarg:=none,defaults:=[] },.Constant .none 0 {0,0,0,0},aB (top 0),{0,0,0,0} }
theorem Bs {ns:List (Str × NameKind)} (h:ns.all (λp=>!(p.2==NameKind.free) || p.1==y)=true) (e:ns.lookup z=some .free):z=y:=by
 have:=QN.mp h _ (eC e);simpa using this
theorem wz:LmScope "here" "net" eT.scope:={rfl,rfl,rfl,rfl,rfl,by decide,by decide +kernel,λz h=>Bs (by decide +kernel) h}
structure Tk (T:Addr) (H H':Hp):Prop where
 old:∀b o,H b=some o->b≠T->H' b=some o
 tab:fK T eT H'
theorem zR {l:Lm} (t:fK T l H):∃ps,H T=some (.tbl ps):=by rcases t with e|⟨c,e,_⟩ <;> exact⟨_,e⟩
variable {o u:HO}
theorem pd {l:Lm} (t:fK T l H) (h:H b=some o) (n:∀ps,o≠.tbl ps):b≠T:=λz=>by
 obtain⟨ps,e⟩:=zR t;rw[z,e]at h;exact n ps (Q0 h).symm
theorem cQ {l:Lm} (t:fK T l H) (S:ao H H'):fK T l H':=by
 rcases t with e|⟨c,e,q⟩
 ·exact .inl (S _ _ e)
 exact .inr {c,S _ _ e,S _ _ q}
theorem Tk.lst (t:fK T eT H) (k:Tk T H H'):∀b xs,H b=some (.lst xs)->H' b=some (.lst xs):=λb xs e=>k.old b _ e (pd t e λ_ z=>nomatch z)
theorem Tk.tup (t:fK T eT H) (k:Tk T H H'):∀b xs,H b=some (.tup xs)->H' b=some (.tup xs):=λb xs e=>k.old b _ e (pd t e λ_ z=>nomatch z)
theorem Tk.of (t:fK T eT H) (S:ao H H'):Tk T H H':={λb o e _=>S b o e,cQ t S}
theorem Tk.trans (a:Tk T H H1) (b:Tk T H1 H2):Tk T H H2:={λc o e n=>b.old c o (a.old c o e n) n,b.tab}
theorem NAt.mono (hl:∀b xs,H b=some (.lst xs)->H' b=some (.lst xs)) (ht:dy H H') (h:NAt H a li lg ins vs gs):NAt H' a li lg ins vs gs:={ht _ _ h.ha,hl _ _ h.hi,hl _ _ h.hg,bE ht h.gates}
def cN (ps:List (Str × Str)):List (V × Key):=ps.map λp=>(V.str p.1,Sum.inr p.2)
def stN (ins:List Str) (gs:F5):Key->List (V × Key)
 | .inr z=>cN (au ins gs z)
 | .inl _=>[]
theorem i6 {ps:List (Str × Str)} (hl:H l=some (.lst vs)) (p:Paired (oU H) vs ps):bA H l (cN ps):=by
 refine{vs,hl,?_};unfold cN;clear hl
 induction p with
 | nil=>exact .nil
 | cons h _ ih=>exact .cons h ih
theorem pi {p:Str × Str} (h:p∈au ins gs z):∃i,ins.length<=i/\i<ins.length+gs.length/\p.2=fH z i/\(∃g,gs[i-ins.length]?=some g/\p.1=g.1):=by
 unfold au at h;obtain⟨q,hq,e⟩:=List.mem_filterMap.mp h;obtain⟨j,hj,ej⟩:=Qo.mp hq;have e2:=Qc hj;rw[ej,List.getElem?_zipIdx]at e2;unfold cC at e
 split at e
 ·cases e
 cases e;rw[List.length_zipIdx]at hj;rw[Qc hj]at e2;cases e2;exact{ins.length+j,⋯,⋯,rfl,gs[j],by rw[XA];exact Qc hj,rfl}
theorem bZ (ins:List Str) (gs:F5):(aq ins gs).length=ins.length+gs.length:=by unfold aq;rw[Qk,Qa]
theorem fO (st:StOk (aq ins gs).length z) {x:Key} (r:Bf.Reach (nxK (stN ins gs)) (Sum.inr z) x):∃y:Str,x=Sum.inr y/\StOk (aq ins gs).length y:=by
 induction r with
 | start=>exact⟨z,rfl,st⟩
 | @step a b _ hb ih =>
 obtain⟨y,rfl,sy⟩:=ih;unfold nxK stN cN at hb;rw[QT]at hb;obtain⟨p,hp,rfl⟩:=Qj.mp hb;obtain⟨i,h1,h2,e,_⟩:=pi hp;refine{p.2,rfl,?_};rw[e];exact sw sy (by rw[bZ];exact h2)
def oS:Nat->List (List Nat)
 | 0=>[[]]
 | n+1=>(oS n).flatMap λl=>[48::l,49::l]
theorem lD:∀n,(oS n).length=2 ^ n
 | 0=>rfl
 | n+1=>by
  unfold oS;rw[List.length_flatMap];show ((oS n).map λ_=>2).sum=_;rw[List.map_const',List.sum_replicate_nat,lD n,Nat.pow_succ]
theorem lC:∀n (l:List Nat),l.length=n->(∀c∈l,c=48\/c=49)->l∈oS n
 | 0,l,h,_=>by rw[Q8 h];simp[oS]
 | n+1,[],h,_=>by simp at h
 | n+1,c::l,h,hc=>by
  unfold oS;rw[List.mem_flatMap];refine{l,lC n l (by simpa using h) (λd hd=>hc d (Qx _ hd)),?_};rcases hc c (by simp) with e|e <;> subst e <;> simp
theorem fY {xs:List Key} (n11:n<=11) (nd:xs.Nodup) (h:∀x∈xs,∃y:Str,x=Sum.inr y/\StOk n y):xs.length<=2048:=by
 have:=Bf.pigeon xs ((oS n).map λl=>(Sum.inr ⟨l.toArray⟩:Key)) nd λx hx=>by
  obtain⟨y,rfl,st⟩:=h x hx;exact Qj.mpr {y.cps.toList,lC n _ (by rw[Qs];exact st.len) st.signs,by cases y;simp}
 rw[Qa,lD]at this;have h2:2 ^ n<=2 ^ 11:=Nat.pow_le_pow_right (by decide) n11;have h3:(2:Nat) ^ 11=2048:=by decide
 omega
def gh (TL:Addr):Sp:=λvs H Q _=>∃a li lg ins gvs gs z,vs=[.ref a,.str z]/\NAt H a li lg ins gvs gs/\NetOk ins gs/\StOk (aq ins gs).length z/\fK TL eT H /\
 ∀(F:Addr) (as:F4) (n:Nat) (H':Hp),Tk TL H H'->H F=none->(Bf.bfs (nxK (stN ins gs)) (Sum.inr z) n).length=n->as.length=n->H' F=some (.dK (fdK (Bf.bfs (nxK (stN ins gs)) (Sum.inr z) n) as)) ->
  (∀(i:Nat) x b,(Bf.bfs (nxK (stN ins gs)) (Sum.inr z) n)[i]?=some x->as[i]?=some b->bA H' b (stN ins gs x))->Q (.ref F) H'
section
theorem xf {f c cell:Addr} (f_steps_from:Fn P w K mg base "steps_from" ["net", "standing"] 12 eO):Calls P w K mg base 13 f (yW f eT "net" cell c (i5 eO [] E0 (bj (bV 1) (bj (bV 0) dW)))) :=
 si (k:=12) wz (λpm ctv u=>rfl) λA outer s H hr=>za f_steps_from hr (by rfl) (aa (pv 1) (aa (pv 0) ad))
theorem jV:FnScope ["net", "standing"] ["net", "standing"] (aB (top 19)):=by fin2
theorem rl {TL cc:Addr} {f:Addr} {fd:FuncData} (Fu:FunC K "steps_found" "steps_found" (top 19) f fd cc) (T:Txt K mg TT) (CT:PySem.W.CodeHd base cc TL) (BM:gK base mg) (f_found_from:Fn P w K mg base "found_from" ["start", "steps_of"] 14 (nA P w K mg base 13)) (f_steps_from:Fn P w K mg base "steps_from" ["net", "standing"] 12 eO) :
  FnOk P w K mg base CX0 15 f fd ["net", "standing"] (gh TL):=by
 have S:=jV;refine Fu.ok S (λvs H Q E h=>?_) (λA outer s H vs Q E hr h=>?_)
 ·obtain⟨a,li,lg,ins,gvs,gs,z,rfl,_⟩:=h;rfl
 obtain⟨a,li,lg,ins,gvs,gs,z,rfl,NA,ok,st,tb,k⟩:=h;have hu:=du hr;have HCL:PySem.closureFor eT.scope (PyProof.Rows.envOfC "steps_found" (aB (top 19)) s.heap.objs.size f (.ref cc))=pure [(("net" : Str),(s.heap.objs.size+1:Addr))]:=by rfl
 refine'{?_,?bb,?_}
 case bb =>
  refine' a9 ?_;rotate_left 1;walk_at "p";exact(aK (Ai (i:=0) f_found_from (hr.mono (by first|decide|omega)) (by rfl) (aa (pv 1) (aa (Ag (T:=TL) (cl:=[(("net" : Str),(s.heap.objs.size+1:Addr))]) rfl CT BM HCL) ad) ai) rfl rfl (Or.inr (Or.inl rfl)) rfl rfl))
 x_go;generalize hcell:s.heap.objs.size+1=cell;kt_k;show bj (bV 1) (bj (A_ TL eT [("net", cell)]) dW) _ _ _;refine ak (aj rfl (ak {tb,λfl c H2 md=>aC {_,rfl,λo uy hd ru hc=>?_} }));have md:Made TL eT [("net", cell)] H fl c H2:=md;obtain rfl:uy=Value.ref a:=ru;have NA2:NAt H2 a li lg ins gvs gs:=NA.mono (λb xs e=>md.old b _ e (pd tb e λ_ z=>nomatch z)) (λb xs e=>md.old b _ e (pd tb e λ_ z=>nomatch z));have S2c:ao H2 (upd H2 cell (cR o)):=ag hc;have hf2:upd H2 cell (cR o) fl=some (iX fl eT [("net", cell)] c):=S2c _ _ md.fn;have hcc2:upd H2 cell (cR o) c=some (ji c eT.qual):=S2c _ _ md.code;have hcl2:upd H2 cell (cR o) cell=some (cR o):=af;have NA2c:=NA2.same S2c;have k12:∀b u,H b=some u->b≠TL->upd H2 cell (cR o) b=some u:=λb u e n=>S2c _ _ (md.old b u e n);have tb2:fK TL eT (upd H2 cell (cR o)):=.inr {c,S2c _ _ md.tab,hcc2};have nocell:∀{b u},H2 b=some u->b≠cell:=λe z=>by rw[z,hc]at e;cases e
 have H2R:∀{b u},H b=some u->b≠TL->b≠cell:=λ{b u} e n=>nocell (md.old b u e n);have Tcell:TL≠cell:=nocell md.tab;generalize upd H2 cell (cR o)=H2c at *;have w11:(aq ins gs).length<=11:=by rw[bZ];have:=ok.i4;have:=ok.g7;omega
 refine{Sum.inr z,fl,eT,[("net", cell)],c,_,stN ins gs,2048,rfl,hf2,xf (c:=c) (cell:=cell) f_steps_from,by decide,λx H4 Q1 rx S4 q4=>?_,λxs nd h=>fY w11 nd λx hx=>fO st (h x hx),λF as n H3 S3 hF ln3 las hF3 sts=>?_}
 ·obtain⟨y,rfl,sy⟩:=fO st rx;have NA4:=NA2c.same S4;have hcl4:=S4 _ _ hcl2;refine{o,Value.ref a,.ref a,S4 _ _ hf2,S4 _ _ hcc2,hcl4,hd,rfl,?_};have dl:∀b xs,H4 b=some (.lst xs)->dU H4 cell b=some (.lst xs):=λb xs e=>by rw[bK (λz=>by rw[z,hcl4]at e;cases e)];exact e
  have dt:∀b xs,H4 b=some (.tup xs)->dU H4 cell b=some (.tup xs):=λb xs e=>by rw[bK (λz=>by rw[z,hcl4]at e;cases e)];exact e
  refine bJ (ak (aj rfl (ak (aj rfl (aC ?_)))));refine{a,li,lg,ins,gvs,gs,y,rfl,NA4.mono dl dt,ok,sy,λl vs' H5 S5 hl0 hl5 pr5 hn5=>?_};have kc:dy H5 (upd H5 cell (cR o)):=λb xs e=>by rw[am (λz=>by rw[z,hn5]at e;cases e)];exact e
  refine q4 l _ (λb u e=>?_) (i6 (by rw[am (λz=>by rw[z,hn5]at hl5;cases hl5)];exact hl5) (cE kc pr5));by_cases cb:b=cell
  ·subst cb;rw[af,<-hcl4];exact e
  rw[am cb];exact S5 _ _ (by rw[bK cb];exact e)
 show Q (V.ref F) (dU H3 cell);have hcl3:=S3 _ _ hcl2;have d3:∀{b u},H3 b=some u->b≠cell->dU H3 cell b=some u:=λe n=>by rw[bK n];exact e
 have Fcell:F≠cell:=λz=>by rw[z,hcl2]at hF;cases hF
 have tb3:fK TL eT (dU H3 cell):=by
  rcases tb2 with e|⟨c',e,q⟩
  ·exact .inl (d3 (S3 _ _ e) Tcell)
  have c'cell:c'≠cell:=λz=>by rw[z,hcl2]at q;cases q
  exact .inr {c',d3 (S3 _ _ e) Tcell,d3 (S3 _ _ q) c'cell}
 have F0:H F=none:=by
  cases e:H F with
  | none=>rfl
  | some u =>
  by_cases c:F=TL
  ·obtain⟨ps,e2⟩:=zR tb2;rw[c,e2]at hF;cases hF
  rw[k12 _ _ e c]at hF;cases hF
 refine k F as n _ {λb u e nT=>d3 (S3 _ _ (k12 b u e nT)) (H2R e nT),tb3} F0 ln3 las (d3 hF3 Fcell) λi x b e1 e2=>?_;obtain⟨vs,h1,h2⟩:=sts i x b e1 e2;exact{vs,d3 h1 (λz=>by rw[z,hcl3]at h1;cases h1),bX (λv st ⟨b,e,q⟩=>{b,e,d3 q (λz=>by rw[z,hcl3]at q;cases q)}) h2}
end
theorem oz {nm:Str}:∀{ns:List Str},inV (.str nm) (ns.map V.str)=true↔nm∈ns
 | []=>by simp[inV]
 | x::ns=>by
  have ih:=oz (nm:=nm) (ns:=ns);unfold inV at ih ⊢;rw[QM,List.any_cons,Bool.or_eq_true,ih,QO]
  have:eqV (.str x) (.str nm)=true↔nm=x:=by
   show decide (x=nm)=true↔_;rw[XC];exact{λh=>h.symm,λh=>h.symm}
  rw[this]
theorem uX (ns:List Str):(ns.map V.str).all fh=true:=by
 rw[QN];intro x hx;obtain⟨y,_,rfl⟩:=Qj.mp hx;rfl
section
variable (ins:List Str) (gs:F5)
end
theorem ed (ins:List Str) (gs:F5) (y:Str):(au ins gs y).length<=gs.length:=by
 unfold au;have:=List.length_filterMap_le (cC (sgn (aq ins gs) y) y) (gs.zipIdx ins.length);rwa [List.length_zipIdx]at this
def FAt (H:Hp) (F:Addr) (ins:List Str) (gs:F5) (R:Str->Prop):Prop:=∀y,R y->∃b,cK H F (kV (Sum.inr y)) (some (.ref b))/\bA H b (cN (au ins gs y))
theorem gO {ps:List (Str × Str)} (pv:Paired (λv (s:V × Key)=>∃b,v=.ref b/\H b=some (.tup [s.1,kV s.2])) vs (cN ps)) (e:vs[i]?=some v):∃p b,ps[i]?=some p/\v=.ref b/\H b=some (.tup [.str p.1,.str p.2]):=by
 obtain⟨st,e1,b,e2,h⟩:=paired_get pv e;unfold cN at e1;rw[Qi]at e1
 cases e3:ps[i]? with
 | none=>rw[e3]at e1;cases e1
 | some p=>rw[e3]at e1;cases e1;exact⟨p,b,rfl,e2,h⟩
section
end
section
variable (st:Str->List (Str × Str))
def evs (xs:List Str):List (Str × (Str × Str)):=xs.flatMap λh=>(st h).map λp=>(p.2,(p.1,h))
def iA (es:List (Str × (Str × Str))) (x:Str):Option (Str × Str):=(es.find? λe=>e.1==x).map (·.2)
inductive Path (xs:List Str) (s:Str):Str->List Str->Prop
 | nil:Path xs s s []
 | snoc {x h nm:Str} {ns:List Str}:x≠s->iA (evs st xs) x=some (nm,h)->Path xs s h ns->Path xs s x (ns++[nm])
end
variable {st:Str->List (Str × Str)}
theorem Path.det (a:Path st xs s x ns):Path st xs s x ms->ns=ms:=by
 induction a generalizing ms with
 | nil=>intro b;cases b with
  | nil=>rfl
  | snoc h _ _=>exact absurd rfl h
 | snoc h c _ ih=>intro b;cases b with
  | nil=>exact absurd rfl h
  | snoc h' c' p' =>
   rw[c]at c';cases c';rw[ih p']
theorem Path.start {xs:List Str} (a:Path st xs s s ns):ns=[]:=a.det .nil
structure CAt (H:Hp) (C:Addr) (kvs:List (Key × V)) (es:List (Str × (Str × Str))):Prop where
 hC:H C=some (.dK kvs)
 some:∀x r,iA es x=some r->∃t,bh kvs (Sum.inr x)=some (.ref t)/\H t=some (.tup [.str r.1,.str r.2])
 none:∀x,iA es x=none->bh kvs (Sum.inr x)=none
 len:kvs.length<=es.length
def aA (xs:List Str):List Key:=xs.map Sum.inr
theorem kS {k:Key} (h:(fdK (aA xs) as)[j]?=some (k,v)):∃x b,xs[j]?=some x/\as[j]?=some b/\k=Sum.inr x/\v=.ref b:=by
 unfold fdK aA at h;rw[Qi]at h
 cases q:((xs.map Sum.inr:List Key).zip as)[j]? with
 | none=>rw[q]at h;cases h
 | some p =>
 obtain⟨p1,p2⟩:=p;rw[q]at h;cases h;obtain⟨h1,h2⟩:=List.getElem?_zip_eq_some.mp q;rw[Qi]at h1
 cases e:xs[j]? with
 | none=>rw[e]at h1;cases h1
 | some x=>rw[e]at h1;cases h1;exact⟨x,p2,rfl,h2,rfl,rfl⟩
theorem eL (nd:(kvs.map (·.1)).Nodup):∀{i:Nat} {k:Key} {v:V},kvs[i]?=some (k,v)->bh kvs k=some v:=by
 induction kvs with
 | nil=>intro i k v e;simp at e
 | cons p r ih =>
 intro i k v e;rw[QM,Q4]at nd
 cases i with
 | zero =>
  simp at e;subst e;exact bS (p:=(k,v)) rfl
 | succ i =>
 simp at e;rw[bU (λz:p.1=k=>nd.1 (by rw[z];exact Qj.mpr {(k,v),Qg e,rfl}))];exact ih nd.2 e
theorem gR (nd:xs.Nodup):((fdK (aA xs) as).map (·.1)).Nodup:=by
 rw[iy];refine(List.take_sublist _ _).nodup ?_;unfold aA;exact List.Pairwise.map _ (λa b h z=>h (Sum.inr.inj z)) nd
section
end
theorem qu:∀{ks:List Key},(∀k∈ks,∃y:Str,k=Sum.inr y)->∃xs:List Str,ks=aA xs
 | [],_=>{[],rfl}
 | k::ks,h=>by
  obtain⟨y,rfl⟩:=h k (by simp);obtain⟨xs,rfl⟩:=qu λk hk=>h k (Qx _ hk);exact{y::xs,rfl}
theorem cU {k:Key}:(aA xs)[i]?=some k↔∃x,xs[i]?=some x/\k=Sum.inr x:=by
 unfold aA;rw[Qi]
 cases xs[i]? with
 | none=>simp
 | some x=>simp[eq_comm]
theorem mK:∀{xs ys:List Str},aA xs=aA ys->xs=ys
 | [],[],_=>rfl
 | [],y::ys,h=>by cases h
 | x::xs,[],h=>by cases h
 | x::xs,y::ys,h=>by
  unfold aA at h;rw[QM,QM]at h;injection h with h1 h2;rw[Sum.inr.inj h1,mK (xs:=xs) (ys:=ys) h2]
structure Met (ins:List Str) (gs:F5) (z:Str) (xs:List Str):Prop where
 bfs:aA xs=Bf.bfs (nxK (stN ins gs)) (Sum.inr z) xs.length
 st:∀x∈xs,StOk (aq ins gs).length x
theorem wq {k:Key}:k∈nxK (stN ins gs) (Sum.inr h)↔∃p∈au ins gs h,k=Sum.inr p.2:=by
 unfold nxK stN cN;rw[QT]
 constructor
 ·intro q;obtain⟨p,hp,e⟩:=Qj.mp q;exact⟨p,hp,e.symm⟩
 rintro⟨p,hp,rfl⟩;exact Qj.mpr ⟨p,hp,rfl⟩
variable {ins:List Str} {gs:F5} {z:Str} {xs:List Str}
section
theorem Met.len (m:Met ins gs z xs):(Bf.bfs (nxK (stN ins gs)) (Sum.inr z) xs.length).length=xs.length:=by rw[<-m.bfs];unfold aA;rw[Qa]
theorem Met.nd (m:Met ins gs z xs):xs.Nodup:=by
 have:=Bf.cB (nx:=nxK (stN ins gs)) (s:=(Sum.inr z:Key)) xs.length;rw[<-m.bfs]at this;unfold aA at this;exact(XJ.mp this).imp λh e=>h (by rw[e])
theorem Met.zero (m:Met ins gs z xs):xs[0]?=some z:=by
 have:=Bf.qI (nx:=nxK (stN ins gs)) (s:=(Sum.inr z:Key)) xs.length;rw[<-m.bfs]at this;obtain⟨x,h1,h2⟩:=cU.mp this;cases h2;exact h1
theorem Met.pred (m:Met ins gs z xs) {j:Nat} {x:Str} (hj:0<j) (e:xs[j]?=some x):∃i h p,i<j/\xs[i]?=some h/\p∈au ins gs h/\p.2=x:=by
 obtain⟨i,k,h1,_,h3,h4⟩:=Bf.lp (nx:=nxK (stN ins gs)) (s:=(Sum.inr z:Key)) xs.length j (Sum.inr x) hj (by rw[<-m.bfs];exact cU.mpr ⟨x,e,rfl⟩);rw[<-m.bfs]at h3;obtain⟨h,e1,rfl⟩:=cU.mp h3;obtain⟨p,hp,e2⟩:=wq.mp h4;exact{i,h,p,h1,e1,hp,(Sum.inr.inj e2).symm}
theorem Met.closed (m:Met ins gs z xs) {h:Str} (hh:h∈xs) {p:Str × Str} (hp:p∈au ins gs h):p.2∈xs:=by
 obtain⟨i,hi,e⟩:=Qo.mp hh;have:=Bf.lA (nx:=nxK (stN ins gs)) (s:=(Sum.inr z:Key)) (n:=xs.length) (i:=i) hi (by rw[<-m.bfs];exact cU.mpr {h,by rw[Qc hi,e],rfl}) (Sum.inr p.2) (wq.mpr ⟨p,hp,rfl⟩);rw[<-m.bfs]at this;unfold aA at this;obtain⟨y,hy,e⟩:=Qj.mp this;cases e;exact hy
theorem Met.one {ys:List Str} (m:Met ins gs z xs) (m':Met ins gs z ys):xs=ys:=by
 have e:=Bf.yw m.len m'.len;have h:=m.bfs;rw[e,<-m'.bfs]at h;exact mK h
theorem lc {st:Str->List (Str × Str)}:∀{xs:List Str} {i:Nat} {h:Str} {p:Str × Str},xs[i]?=some h->p∈st h->∃i' h' nm,i'<=i/\xs[i']?=some h'/\iA (evs st xs) p.2=some (nm,h')
 | [],_,_,_,e,_=>by simp at e
 | x0::xs,i,h,p,e,hp=>by
  have split:evs st (x0::xs)=((st x0).map λp=>(p.2,(p.1,x0)))++evs st xs:=rfl
  cases q:((st x0).map λp=>(p.2,(p.1,x0))).find? λe=>e.1==p.2 with
  | some r =>
   have hm:=List.mem_of_find?_eq_some q;obtain⟨p',_,rfl⟩:=Qj.mp hm;refine{0,x0,p'.1,QG _,rfl,?_};unfold iA;rw[split,List.find?_append,q];rfl
  | none =>
  cases i with
  | zero =>
   simp at e;subst e;have:=List.find?_eq_none.mp q (p.2,(p.1,x0)) (Qj.mpr ⟨p,hp,rfl⟩);simp at this
  | succ i =>
  obtain⟨i',h',nm,a,b,c⟩:=lc (xs:=xs) (i:=i) (by simpa using e) hp;refine{i'+1,h',nm,⋯,by simpa using b,?_};unfold iA at c ⊢;rw[split,List.find?_append,q,Option.none_or];exact c
theorem Met.path (m:Met ins gs z xs):∀(j:Nat) (x:Str),xs[j]?=some x->∃ns,Path (au ins gs) xs z x ns/\ns.length<=j:=by
 intro j
 induction j using Nat.strongRecOn with
 | _ j ih =>
 intro x e;by_cases hj:j=0
 ·subst hj;rw[m.zero]at e;cases e;exact{[],.nil,Qh _}
 obtain⟨i,h,p,h1,h2,h3,rfl⟩:=m.pred ⋯ e;obtain⟨i',h',nm,a,b,c⟩:=lc h2 h3;obtain⟨ns,pn,ln⟩:=ih i' ⋯ h' b;refine{ns++[nm],.snoc (λq=>?_) c pn,by rw[Qk];simp;omega};rw[q]at e;have e0:=m.zero;have hl:=(Qe.mp e).1;have:=(List.getElem?_inj (i:=0) (j:=j) ⋯ m.nd).mp (by rw[e0,e]);omega
end
section
end
structure DOk (ns:List Int):Prop where
 lo:200<=ns.length
 hi:ns.length<=400
 each:∀n∈ns,0<=n/\n<10007
def sN (K:PySem.W.Frag):Sp:=λvs H Q _=>∃(s:Addr) (cs:List Int),vs=[.ref s,.int 200]/\SqL K H s (cs.map V.int)/\cs.length<=63/\∀l ns H',ao H H'->H l=none->H' l=some (.lst (ns.map V.int))->DOk ns->Q (.ref l) H'
theorem jD {xs:List V} {lo hi:Option Int}:(∀x∈fJ xs lo hi,x∈xs)/\(fJ xs lo hi).length<=xs.length :=
 {λx hx=>List.mem_of_mem_drop (List.mem_of_mem_take hx),je xs lo hi}
theorem tF:∀(xs:List V),(∀x∈xs,∃i:Int,x=.int i)->∃ds:List Int,xs=ds.map V.int
 | [],_=>{[],rfl}
 | x::xs,h=>by
  obtain⟨i,e⟩:=h x (by simp);obtain⟨ds,e2⟩:=tF xs λy hy=>h y (Qx _ hy);exact{i::ds,by rw[e,e2];rfl}
theorem wZ (cs:List Int) (h:cs.length<=63) {lo hi:Option Int}:∃ds:List Int,fJ (cs.map V.int) lo hi=ds.map V.int/\ds.length<=63:=by
 obtain⟨m,l⟩:=jD (xs:=cs.map V.int) (lo:=lo) (hi:=hi)
 obtain⟨ds,e⟩:=tF (fJ (cs.map V.int) lo hi) λx hx=>by
  obtain⟨i,_,e⟩:=Qj.mp (m x hx);exact⟨i,e.symm⟩
 refine{ds,e,?_};rw[e,Qa,Qa]at l;omega
theorem rT {ns:List Int} {n:Int} (h:H p=some (.lst (ns.map V.int))) (hz:ns.length<=500) (hns:∀m∈ns,0<=m/\m<10007) (hb:0<=n/\n<10007)
  (q:∀(H':Hp) (ns':List Int),H' p=some (.lst (ns'.map V.int))->ns'.length=ns.length+1->(∀m∈ns',0<=m/\m<10007)->(∀b,b≠p->H' b=H b)->Q .non H'):nV (.ref p) [.int n] H Q:=by
 have big:1000<sizeLine:=by decide
 refine dr h (by rw[Qa];omega) (q _ (ns++[n]) (by rw[af];simp) (by simp) (λm hm=>?_) λb hb=>am hb);rcases Qp.mp hm with h|h
 ·exact hns m h
 rw[Qr]at h;rw[h];exact hb
theorem rH (a:Int):0<=a % 10007/\a % 10007<10007:={Int.emod_nonneg _ (by decide),XU _ (by decide)}
theorem jY (S:ao H H3) (hp:H p=none) (h:∀b,b≠p->H4 b=H3 b):ao H H4:=λb u e=>by rw[h b (aG e hp)];exact S b u e
section
theorem nK:FnScope ["script", "many", "drawn", "base", "k", "cell", "number", "one"] ["script", "many"] (aB (top 34)):=by fin2
theorem wj {f:Addr} {fd:FuncData} (Fu:Fun K "_law_draws" "_law_draws" (top 34) f fd) (T:Txt K mg TT):FnOk P w K mg base CX0 1 f fd ["script", "many"] (sN K):=by
 have S:=nK;refine Fu.ok S (by room) (λcdv A outer s H vs Q E hr h=>?_);obtain⟨a,cs,rfl,hS,hlen,k⟩:=h
 refine{_,(pss_cons (aF 2 S.nd (aY ad))
  (pss_cons (vL (i:=3) S.nd rfl (by z_go) ae)
  (pss_cons (ps_for PassesOwn.never rfl (sU (by rfl) T.n_enumerate (aa (a8 cq (pv 0) bt (br ae)) ad)) (fR rfl (bC (bO 4 S.nd) (bC (bO 5 S.nd) dX)))
  (pss_cons (aF 6 S.nd (aE xh (by rfl) T.n_abs PyProof.Rows.boot_abs (aa (pv 5) ad)))
  (pss_cons (aF 3 S.nd (ap aR (ap aO (ap dQ (pv 3) ae) (pv 6)) ae))
  (a9 (ps_if (aM zc (pv 6) (ap vX ae ae) (aP _)) (a9 (fQ PassesOwn.never (PW.pt (nZ (aM vY (pv 6) ae (aP _)) (jw (aM kz (aE aI (by rfl) T.n_len QJ (aa (pv 2) ad)) (pv 1) (aP _)))))
  (pss_cons (bB (cL QB QC QE a7 (pv 2) (aa (ap aR (pv 6) ae) ad)))
  (a9 (aF 6 S.nd (ap cI (pv 6) ae)))))) (pss_cons (aF 7 S.nd (ap aR (ap dQ (ap aO (ap aO (ap aR (pv 6) ae) (pv 4)) ae) ae) ae))
  (pss_cons (aF 7 S.nd (ap aR (ap dQ (pv 7) (pv 7)) ae))
  (pss_cons (bB (cL QB QC QE a7 (pv 2) (aa (ap aR (ap cI (pv 7) ae) ae) ad)))
  (pss_cons (aF 7 S.nd (ap aR (ap aO (ap aO (ap dQ (pv 7) ae) (ap dQ ae (pv 4))) ae) ae))
  (pss_cons (aF 7 S.nd (ap aR (ap dQ (pv 7) (pv 7)) ae))
  (a9 (bB (cL QB QC QE a7 (pv 2) (aa (ap aR (ap cI (pv 7) ae) ae) ad))))))))))))))
  (pss_cons (ps_for PassesOwn.never rfl (ce (by rfl) T.n_range (aa (ap fV (pv 1) (aE aI (by rfl) T.n_len QJ (aa (pv 2) ad))) ad)) (bO 4 S.nd)
  (pss_cons (aF 7 S.nd (ap aR (ap aO (ap aO (pv 3) (ap dQ ae (pv 4))) ae) ae))
  (pss_cons (aF 7 S.nd (ap aR (ap dQ (pv 7) (pv 7)) ae))
  (pss_cons (aF 7 S.nd (ap aR (ap aO (ap dQ (pv 7) ae) (pv 4)) ae))
  (a9 (bB (cL QB QC QE a7 (pv 2) (aa (ap aR (ap cI (ap aR (ap dQ (pv 7) (pv 7)) ae) ae) ae) ad))))))))
  (a9 (aK (pv 2))))))),?_}
 x_go;lk;refine{by decide,λp hp=>?_};generalize hE:upd _ p _=H1;have S1:ao H H1:=by rw[<-hE];exact ag hp
 have q1:H1 p=some (.lst (([]:List Int).map V.int)):=by rw[<-hE];exact af
 clear hE;lk;show bj _ _ _ _ _;lk;refine jc (S1.seq hS) λsl hsl=>?_;obtain⟨ds,hds,dl⟩:∃ds:List Int,fJ (cs.map V.int) none (some 63)=ds.map V.int/\ds.length<=63:=wZ cs hlen;rw[hds];generalize hE:upd _ sl _=H2;have S2:ao H1 H2:=by rw[<-hE];exact ag hsl
 have q2:H2 sl=some (.lst (ds.map V.int)):=by rw[<-hE];exact af
 clear hE;have nps:p≠sl:=aG q1 hsl;refine aC {sl,rfl,{_,SqL.of q2},?_};let I6:IvF:=λi U H'=>(∃(bs:Int) (ns:List Int),∃x4 x5 x6 x7,U=[some (.ref a),some (.int 200),some (.ref p),some (.int bs),x4,x5,x6,x7]/\0<=bs/\bs<2147483629/\H' p=some (.lst (ns.map V.int))/\ns.length<=200+2*i/\∀n∈ns,0<=n/\n<10007)/\ao H H'/\H' sl=some (.lst (ds.map V.int))
 refine qz (xs:=ds.map V.int) I6
  { {7,[],_,_,_,_,rfl,by decide,by decide,S2 _ _ q1,by simp,λn h=>nomatch h},S1.trans S2,q2} (λi U H' _ pv=>SqL.of pv.2.2) (λi x U H' t hx pv ht=>?_) (λU H' pv=>?_)
 ·obtain⟨⟨bs,ns,x4,x5,x6,x7,rfl,b0,b1,hp',hln,hns⟩,SS,hsl'⟩:=pv;rw[Qi]at hx
  cases hc:ds[i]? with
  | none=>rw[hc]at hx;cases hx
  | some c =>
  rw[hc]at hx;cases hx;have hi:i<ds.length:=(Qe.mp hc).1;have S3:=ag (o:=.tup [.int (i:Nat),.int c]) ht;refine{t,_,rfl,SqT.of af,rfl,?_};refine{_,_,rfl,az {_,_,rfl,az ?_} };have hp3:=S3 _ _ hp';have hsl3:=S3 _ _ hsl';have SS3:=SS.trans S3;generalize upd H' t (.tup [.int (i:Nat),.int c])=H3 at *;refine{rfl,?_};have n0:0<=(if c<0 then -c else c):=by split <;> omega
  lk;generalize (if c<0 then -c else c)=nu at *;have bb0:0<=(bs*31+nu) % 2147483629:=Int.emod_nonneg _ (by decide);have bb1:(bs*31+nu) % 2147483629<2147483629:=XU _ (by decide);generalize (bs*31+nu) % 2147483629=b2 at *;refine eW (λ_=>?_) (λ_=>?_)
  ·let I7:IvF:=λm U H'=>∃(nu:Int) (ns:List Int),∃x7,m=200-ns.length/\U=[some (.ref a),some (.int 200),some (.ref p),some (.int b2),some (.int (i:Nat)),some (.int c),some (.int nu),x7]/\H' p=some (.lst (ns.map V.int))/\ns.length<=200+2*(i+1)/\(∀n∈ns,0<=n/\n<10007)/\ao H H'/\H' sl=some (.lst (ds.map V.int))
   refine{I7,
    {_,nu,ns,_,rfl,rfl,hp3,⋯,hns,SS3,hsl3},?_}
   rintro m U H4 ⟨nu,ns,x7,rfl,rfl,hp4,hl4,hn4,SS4,hs4⟩
   have done:((∃(bs:Int) (ns:List Int),∃x4 x5 x6 x7',[some (.ref a),some (.int 200),some (.ref p),some (.int b2),some (.int (i:Nat)),some (.int c),some (.int nu),x7]=[some (V.ref a),some (V.int 200),some (V.ref p),some (V.int bs),x4,x5,x6,x7']/\0<=bs/\bs<2147483629/\H4 p=some (.lst (ns.map V.int))/\ns.length<=200+2*(i+1)/\∀n∈ns,0<=n/\n<10007)/\ao H H4/\H4 sl=some (.lst (ds.map V.int))) :=
    {⟨b2,ns,_,_,_,_,rfl,bb0,bb1,hp4,hl4,hn4⟩,SS4,hs4}
   lk;refine eW (λ_=>?_) (λ_=>di done);lk;refine eW (λhlt=>?_) (λ_=>done)
   have hlt':ns.length<200:=by
    have:=XI hlt;rw[Qa]at this;omega
   let I8:IvJ:=λU H'=>∃(nu:Int) (ns':List Int),∃x7,ns'.length=ns.length+1/\U=[some (.ref a),some (.int 200),some (.ref p),some (.int b2),some (.int (i:Nat)),some (.int c),some (.int nu),x7]/\H' p=some (.lst (ns'.map V.int))/\ns'.length<=200+2*(i+1)/\(∀n∈ns',0<=n/\n<10007)/\ao H H'/\H' sl=some (.lst (ds.map V.int));refine{I8,λσ' H' w=>by obtain⟨nu,ns',x7,e,r⟩:=w;exact{200-ns'.length,by rw[e];exact Nat.sub_lt_sub_left hlt' (Nat.lt_succ_self _),nu,ns',x7,rfl,r},?_};lk;refine dr hp4 (by rw[Qa];omega) ?_;lk;refine{_,ns++[nu % 10007],_,by simp,rfl,by rw[af];simp,by simp;omega,λn hn=>?_,aN SS4 hp,by rw[am nps.symm];exact hs4};rcases Qp.mp hn with h|h
   ·exact hn4 n h
   rw[Qr]at h;rw[h];exact{Int.emod_nonneg _ (by decide),XU _ (by decide)}
  lk;refine rT hp3 ⋯ hns (rH _) λH4 ns4 hp4 l4 hn4 o4=>?_;lk;refine rT hp4 ⋯ hn4 (rH _) λH5 ns5 hp5 l5 hn5 o5=>?_;exact{ {b2,ns5,_,_,_,_,rfl,bb0,bb1,hp5,⋯,hn5},jY (jY SS3 hp o4) hp o5,by rw[o5 _ nps.symm,o4 _ nps.symm];exact hsl3}
 obtain⟨⟨bs,ns,x4,x5,x6,x7,rfl,b0,b1,hp',hln,hns⟩,SS,hsl'⟩:=pv;rw[Qa]at hln;lk;refine{by rw[Qa];omega,by rw[Qa];omega,?_};rw[Qa];let I9:IvF:=λi U H'=>(∃(ns':List Int),∃x4 x5 x6 x7,U=[some (.ref a),some (.int 200),some (.ref p),some (.int bs),x4,x5,x6,x7]/\H' p=some (.lst (ns'.map V.int))/\ns'.length=ns.length+i/\∀n∈ns',0<=n/\n<10007)/\ao H H';refine cV I9 {⟨ns,_,_,_,_,rfl,hp',rfl,hns⟩,SS} (λi U H' hi pv=>?_) (λU H' pv=>?_)
 ·obtain⟨⟨ns',x4,x5,x6,x7,rfl,hp6,hl6,hn6⟩,SS6⟩:=pv;have hi':i<200:=by omega
  refine az ?_;lk;refine rT hp6 ⋯ hn6 (rH _) λH7 ns7 hp7 l7 hn7 o7=>?_;exact{ {ns7,_,_,_,_,rfl,hp7,⋯,hn7},jY SS6 hp o7}
 obtain⟨⟨ns',x4,x5,x6,x7,rfl,hp6,hl6,hn6⟩,SS6⟩:=pv;refine ck (te:=bV 2) (D:={ nx:=λx H'=>Q V.non H',rt:=Q }) (aj rfl ?_);exact k p ns' H' SS6 hp hp6 {⋯,⋯,hn6}
end
theorem fz {T:List Nat}:∀(zs:List Str),(∀z∈zs,∃c∈T,z={#[c]})->((zs.map (·.cps.toList)).flatten).length=zs.length/\(∀c∈(zs.map (·.cps.toList)).flatten,c∈T)/\(zs.map (·.length)).sum=zs.length
 | [],_=>{rfl,λc h=>(List.not_mem_nil h).elim,rfl}
 | z::zs,h=>by
  obtain⟨c,hc,rfl⟩:=h z (by simp);obtain⟨e1,e2,e3⟩:=fz zs λz hz=>h z (Qx _ hz);refine{?_,λd hd=>?_,?_}
  ·simp only[QM,List.flatten_cons,Qk,e1,QS];show (#[c]:Array Nat).toList.length+zs.length=_;simp;omega
  ·simp only[QM,List.flatten_cons,Qp]at hd;rcases hd with hd|hd
   ·have:d=c:=by simpa using hd
    rw[this];exact hc
   exact e2 d hd
  simp only[QM,List.sum_cons,QS,e3];show (#[c]:Array Nat).size+zs.length=_;simp;omega
theorem uQ {T:List Nat} (h:∀z∈zs,∃c∈T,z={#[c]}):(Txt.join Str.empty zs).cps.size=zs.length/\∀c∈(Txt.join Str.empty zs).cps.toList,c∈T:=by
 obtain⟨e1,e2,_⟩:=fz zs h;rw[<-Qs,mO];exact⟨e1,e2⟩
theorem yy {t:Str} {r:Int} (h0:0<=r) (h1:r<t.cps.size):∃c,atI t.cps.toList r=some c/\c∈t.cps.toList:=by
 have hr:r.toNat<t.cps.toList.length:=by rw[Qs];omega
 refine{t.cps.toList[r.toNat],?_,Xo hr};have e:r=((r.toNat:Nat):Int):=by omega
 have q:=bQ (xs:=t.cps.toList) (j:=r.toNat) (v:=t.cps.toList[r.toNat]) (Qc hr);rw[<-e]at q;exact q
def Lt:Str := "abcdefghijklmnopqrstuvwxyz"
def Xn (t:Nat):Str:=Txt.mul {#[Lt.cps.getD t 0]} 8
theorem A4:∀i,i<26->∀j,j<26->Xn i=Xn j->i=j:=by decide +kernel
theorem A3:∀t,t<26->(Xn t).length=8:=by decide +kernel
theorem DS (c:Nat):MulOk {#[c]} 8:=by
 refine{by decide,λ_ _=>?_,λ_ _=>?_}
 ·show ¬((1:Int)>(2 ^ 63-1) / 8)
  decide
 rfl
theorem pigeon:∀(xs ys:List Str),xs.Nodup->(∀x∈xs,x∈ys)->xs.length<=ys.length
 | [],ys,_,_=>QG _
 | x::xs,ys,nd,h=>by
  rw[Q4]at nd;have hx:=h x (by simp);have:=pigeon xs (ys.erase x) nd.2 λy hy=>(List.mem_erase_of_ne (λz:y=x=>nd.1 (by rw[<-z];exact hy))).mpr (h y (Qx _ hy));rw[List.length_erase_of_mem hx]at this;have:0<ys.length:=List.length_pos_of_mem hx;rw[QS];omega
theorem qK:∀t,t<=26->((List.range t).map Xn).Nodup
 | 0,_=>by simp
 | t+1,h=>by
  rw[List.range_succ,Qt,Xz];refine{qK t ⋯,by simp,λa ha b hb e=>?_};obtain⟨i,hi,rfl⟩:=Qj.mp ha;rw[List.mem_range]at hi;have:b=Xn t:=by simpa using hb
  subst this;have:=A4 i ⋯ t ⋯ e;omega
theorem D6 {t:Nat} (ht:t<=26) (h:∀j,j<t->Xn j∈ns):t<=ns.length:=by
 have:=pigeon ((List.range t).map Xn) ns (qK t ht) λx hx=>by
  obtain⟨j,hj,rfl⟩:=Qj.mp hx;exact h j (List.mem_range.mp hj)
 simpa using this
structure NmOk (b:Nat) (z:Str):Prop where
 pos:1<=z.length
 lt:z.length<b
def Bd (k:Nat):Nat:=9*2 ^ k
theorem tW (k:Nat):Bd (k+1)=2*Bd k:=by unfold Bd;rw[Nat.pow_succ];omega
theorem zP:∀k,9<=Bd k
 | 0=>by decide
 | k+1=>by rw[tW];have:=zP k;omega
theorem Eh:∀k,k<=11->Bd k<=20000:=by decide
theorem yx (h:ns≠[]):∃n∈ns,atI (ns.map V.str) (-1)=some (.str n):=by
 have hl:0<ns.length:=List.length_pos_iff.mpr h;refine{ns[ns.length-1],Xo _,?_}
 have e:ixN (ns.map V.str).length (-1)=some (ns.length-1):=by
  unfold ixN;rw[Qa,QI (by decide),QL ⋯];congr 1;omega
 unfold atI;rw[e];show (ns.map V.str)[ns.length-1]?=_;rw[Qi,Qc ⋯];rfl
theorem tS {ws:List Str} {r:Int} (h0:0<=r) (h1:r<ws.length):∃n∈ws,atI (ws.map V.str) r=some (.str n):=by
 have hr:r.toNat<ws.length:=by omega
 refine{ws[r.toNat],Xo hr,?_};have e:r=((r.toNat:Nat):Int):=by omega
 have q:=bQ (xs:=ws.map V.str) (j:=r.toNat) (v:=.str ws[r.toNat]) (by rw[Qi,Qc hr];rfl);rw[<-e]at q;exact q
theorem uc {z:Str} {j:Int} (hz:1<=z.length) (hj:1<=j) (hn:j<=z.length):1<=(Txt.slice z none (some j)).length:=by
 have h':z.length=z.cps.size:=rfl;have e:j=((j.toNat:Nat):Int):=by omega
 have q:=congrArg List.length (jR (z:=z) (j:=j.toNat) ⋯);rw[<-e,Qs,Qv,Qs]at q;show 1<=(Txt.slice z none (some j)).cps.size;omega
def pB:Sp:=λvs H Q _=>∃(d:Addr) (ns:List Int) (spot:Int),vs=[.ref d,.int spot]/\H d=some (.lst (ns.map V.int))/\DOk ns/\0<=spot/\spot<=1000 /\
 ∀l (nm:List Str) H',ao H H'->H l=none->nm.length=11->nm.Nodup->H' l=some (.lst (nm.map V.str))->Q (.ref l) H'
theorem lB {ns:List Int} (h:DOk ns) (i:Int):∃n,0<=n/\n<10007/\atI (ns.map V.int) (i % ((ns.map V.int).length:Int))=some (.int n):=by
 have lo:=h.lo;rw[Qa];have h1:0<=i % (ns.length:Int):=Int.emod_nonneg _ ⋯;have h2:i % (ns.length:Int)<ns.length:=XU _ ⋯;have h3:(i % (ns.length:Int)).toNat<ns.length:=by omega
 have e:i % (ns.length:Int)=(((i % (ns.length:Int)).toNat:Nat):Int):=by omega
 obtain⟨e1,e2⟩:=h.each _ (Xo h3);refine{ns[(i % (ns.length:Int)).toNat],e1,e2,?_};have q:=bQ (xs:=ns.map V.int) (j:=(i % (ns.length:Int)).toNat) (v:=.int ns[(i % (ns.length:Int)).toNat]) (by rw[Qi,Qc h3];rfl);rw[<-e]at q;exact q
theorem dh {ns:List Int} (h:DOk ns) {i:Int} (h0:0<=i) (h1:i<200):∃n,0<=n/\n<10007/\atI (ns.map V.int) i=some (.int n):=by
 have lo:=h.lo;have h3:i.toNat<ns.length:=by omega
 obtain⟨e1,e2⟩:=h.each _ (Xo h3);refine{ns[i.toNat],e1,e2,?_};have e:i=((i.toNat:Nat):Int):=by omega
 have q:=bQ (xs:=ns.map V.int) (j:=i.toNat) (v:=.int ns[i.toNat]) (by rw[Qi,Qc h3];rfl);rw[<-e]at q;exact q
theorem kr:∀(zs:List Str),(∀z∈zs,z.length=2)->((zs.map (·.cps.toList)).flatten).length=2*zs.length/\(zs.map (·.length)).sum=2*zs.length
 | [],_=>⟨rfl,rfl⟩
 | z::zs,h=>by
  have h0:z.cps.size=2:=h z (by simp);have h0':z.length=2:=h0;obtain⟨e1,e3⟩:=kr zs λz hz=>h z (Qx _ hz);refine{?_,?_}
  ·simp only[QM,List.flatten_cons,Qk,e1,QS,Qs,h0];omega
  simp only[QM,List.sum_cons,QS,e3,h0'];omega
theorem lap (a b:Str):(a++b).length=a.length+b.length:=by show (a.cps++b.cps).size=_;rw[Xu];rfl
theorem m_ (i:Int):∃c,atI Lt.cps.toList (i % 26)=some c:=by
 have z26:((Lt.cps.size:Nat):Int)=26:=by decide +kernel
 obtain⟨c,e,_⟩:=yy (t:=Lt) (r:=i % 26) (Int.emod_nonneg _ (by decide)) (by rw[z26];exact XU _ (by decide));exact⟨c,e⟩
def NJd (d l so:Addr) (spot:Int) (H:Hp) (wd:Str) (i:Nat) (ns:List Str):St->Hp->Prop:=λU H'=>∃(way x:Int) (nm:Str) (x10 x11:Option V),U=[some (.ref d),some (.int spot),some (.str Lt),some (.ref l),some (.int (0+i)),some (.ref so),some (.str wd),some (.int way),some (.int x),some (.str nm),x10,x11]/\0<=x/\NmOk (Bd (i+1)) nm/\H' l=some (.lst (ns.map V.str))/\ao H H'
section
theorem nG:FnScope ["d", "spot", "letters", "found", "k", "some", "word", "way", "x", "name", "at", "turn"] ["d", "spot"] (aB (top 35)):=by fin2
theorem uC {f:Addr} {fd:FuncData} (Fu:Fun K "_law_names" "_law_names" (top 35) f fd) (T:Txt K mg TT):FnOk P w K mg base CX0 1 f fd ["d", "spot"] pB:=by
 have S:=nG;refine Fu.ok S (by room) (λcdv A outer s H vs Q E hr h=>?_);obtain⟨d,ds,spot,rfl,hd,dok,sp0,sp1,k⟩:=h;refine'{?_,?bb,?_}
 case bb =>
  walk_at "b";exact aF 2 S.nd aU;exact aF 3 S.nd (aY ad);walk_at "f";exact(ce (by rfl) T.n_range (aa ae ad aL));exact(bO 4 S.nd);walk_at "p";exact(Bp (j:=5) S.nd rfl (by z_go) (tgs:=["j"]) (cap:=[("d", 0),("spot", 1),("k", 4)]) rfl ⟨rfl,rfl,rfl,rfl,rfl,rfl⟩ (ce (by rfl) T.n_range (aa ae ad aL)) (λ_ _ _ _=>(dH (i:=0) (show List.Nodup [("j" : Str),("d" : Str),("spot" : Str),("k" : Str)] by decide +kernel) rfl (by z_go))) (λ_ _ _ _=>ik) (λ_ _ _ _=>(aD (dM (K:=K) rfl) (pv 1) (ap aR (ap aO (ap aO (ap aO ae (pv 2)) (ap dQ ae (pv 3))) (pv 0)) (aE (dJ (K:=K) rfl) (by rfl) T.n_len QJ (aa (pv 1) ad ai))))));exact aF 6 S.nd (cL PySem.F.plainAttrs_str PySem.F.slot_str_join PySem.F.type_str_join tf aU (aa (dq "one" [("letters", 2)] (bx (a8 cq (pv 5) bt (br ae))) (λ_ _ _ _=>(ap bP (aD eV (pv 1) (ap aR (pv 0) ae)) (aD eV (pv 1) (ap aR (ap cI (pv 0) ae) ae))))) ad));exact aF 7 S.nd (ap aR (aD aH (pv 5) ae) ae);exact aF 8 S.nd (ap cI (aD aH (pv 5) ae) ae);exact aF 9 S.nd (a8 eR (pv 6) bt (br (ap aO ae (ap aR (pv 8) ae))));exact(aM cH (pv 7) ae (aP _));exact aF 9 S.nd (ap bP (a8 eR (aD aH (ap cu (pv 3) (aY (aa (pv 6) ad ai))) ae) bt (br (ap aR (pv 8) ae))) (aD eV (pv 6) ae));exact(PW.pt (nZ (aM cH (pv 7) ae (aP _)) (jw (aM (n8 hr.units) (pv 3) (aY ad) (aP _)))));exact aF 10 S.nd (ap aR (pv 8) (aE fD (by rfl) T.n_len QJ (aa (aD aH (pv 3) (i8 fM ae)) ad)));exact aF 9 S.nd (ap bP (ap bP (a8 eR (aD aH (pv 3) (i8 fM ae)) bt (br (pv 10))) (aD eV (pv 6) ae)) (a8 eR (aD aH (pv 3) (i8 fM ae)) (br (ap aO (pv 10) ae)) bt));exact(aM cH (pv 7) ae (aP _));exact aF 9 S.nd (aD aH (aY (aa aU (aa aU (aa aU (aa aU (aa aU (aa aU (aa aU (aa aU (aa aU (aa aU ad aL) aL) aL) aL) aL) aL) aL) aL) aL) aL)) (ap aR (pv 8) ae));exact aF 11 S.nd ae;refine' fQ PassesOwn.never ?_ ?_;rotate_left 2;exact(aM ur (pv 9) (pv 3) rfl);walk_at "p";exact aF 9 S.nd (ap rj (aD eV (pv 2) (pv 11)) ae);exact aF 11 S.nd (ap aO (pv 11) ae);exact(bB (cL QB QC QE a7 (pv 3) (aa (pv 9) ad ai)));exact(aK (pv 3))
 x_go;lk;refine{by decide,λl hl=>?_};generalize hE:upd _ l _=H1;have S1:ao H H1:=by rw[<-hE];exact ag hl
 have q1:H1 l=some (.lst (([]:List Str).map V.str)):=by rw[<-hE];exact af
 clear hE;lk;refine{by decide,by decide,?_};let I10:IvF:=λi U H'=>∃x4 x5 x6 x7 x8 x9 x10 x11,∃ns:List Str,U=[some (.ref d),some (.int spot),some (.str Lt),some (.ref l),x4,x5,x6,x7,x8,x9,x10,x11]/\i<=11/\ns.length=i/\ns.Nodup/\(∀n∈ns,NmOk (Bd i) n)/\H' l=some (.lst (ns.map V.str))/\ao H H'
 refine cV (n:=11) I10
  {_,_,_,_,_,_,_,_,[],rfl,QG _,rfl,List.nodup_nil,(λn h=>nomatch h),q1,S1} (λi U H' hi pv=>?_) (λU H' pv=>?_)
 ·obtain⟨x4,x5,x6,x7,x8,x9,x10,x11,ns,rfl,_,hn,nd,good,hl',SS⟩:=pv;have bge:=zP i;have ble:=Eh i ⋯;have bsu:=tW i;refine az ?_;lk;refine bR ?_;lk;refine{by decide,by decide,λso hso=>?_};have hdH:=SS _ _ hd;let I11:IvC:=λn H2 ys=>ao H' H2/\H2 so=some (.lst ys)/\∃zs:List Int,ys=zs.map V.int/\zs.length=n/\∀z∈zs,0<=z/\z<10007;refine fB I11 {ag hso,af,[],rfl,rfl,λz h=>nomatch h} (λn H2 ys p=>p.2.1) (λn H2 ys hn5 p=>?_) (λH2 ys p=>?_)
  ·obtain⟨S2,h2,zs,rfl,hz,hc⟩:=p;refine az {⟨rfl,rfl,rfl,trivial⟩,i_yes (b9 ?_)};show tOp _ _ _ [some (.int (0+n)),some (.ref d),some (.int spot),some (.int (0+i))] _ _;have hd2:=S2 _ _ hdH;have lo:=dok.lo;lk;refine dj (by rw[Qa];omega) ?_;obtain⟨m,m0,m1,em⟩:=lB dok (140+spot+5*(0+(i:Int))+(0+(n:Int)));refine bd (SqL.of hd2) em ?_;refine b8.mk h2 hn5 (by rw[Qa];omega) {aN S2 hso,af,zs++[m],by simp,by simp[hz],λz hz'=>?_};rcases Qp.mp hz' with h|h
   ·exact hc z h
   rw[Qr]at h;rw[h];exact⟨m0,m1⟩
  obtain⟨S2,h2,zs,rfl,hz,hc⟩:=p
  obtain⟨z0,z1,z2,z3,z4,rfl⟩:∃z0 z1 z2 z3 z4,zs=[z0,z1,z2,z3,z4]:=by
   match zs,hz with
   | [z0,z1,z2,z3,z4],_=>exact⟨z0,z1,z2,z3,z4,rfl⟩
  have SS2:=SS.trans S2;have hl2:=S2 _ _ hl';have c4:=hc z4 (by simp);lk;refine{rfl,?_};lk;refine bR ?_;lk;refine jc (SqL.of h2) λsl hsl=>?_;rw[show fJ (([z0,z1,z2,z3,z4]:List Int).map V.int) none (some 4)=([z0,z1,z2,z3]:List Int).map V.int from rfl];generalize hE:upd _ sl _=H3;have S3:ao H2 H3:=by rw[<-hE];exact ag hsl
  have q3:H3 sl=some (.lst (([z0,z1,z2,z3]:List Int).map V.int)):=by rw[<-hE];exact af
  clear hE;refine{sl,rfl,{_,SqL.of q3},λwl hwl=>?_};let I12:IvC:=λn H4 ys=>ao H3 H4/\H4 wl=some (.lst ys)/\∃ws:List Str,ys=ws.map V.str/\ws.length=n/\∀w∈ws,w.length=2;refine cg (xs:=([z0,z1,z2,z3]:List Int).map V.int) I12 {ag hwl,af,[],rfl,rfl,λz h=>nomatch h} (λn H4 ys p=>{p.2.1,SqL.of (p.1 _ _ q3)}) (λn y H4 ys e p=>?_) (λH4 ys p=>?_)
  ·obtain⟨S4,h4,ws,rfl,hw,hc4⟩:=p;have hn4:n<4:=(Qe.mp e).1;rw[Qi]at e
   cases ez:([z0,z1,z2,z3]:List Int)[n]? with
   | none=>rw[ez]at e;cases e
   | some o =>
   rw[ez]at e;cases e;refine az {⟨rfl,trivial⟩,i_yes (b9 ?_)};show tOp _ _ _ [some (.int o),some (.str Lt)] _ _;obtain⟨c1,e1⟩:=m_ o;obtain⟨c2,e2⟩:=m_ (o / 26);lk;refine gF (by decide +kernel) e1 ?_;lk;refine gF (by decide +kernel) e2 ?_;refine{_,_,rfl,rfl,(by show 1+1<=sizeLine;decide),?_};refine b8.mk h4 hn4 (by rw[Qa];omega) {aN S4 hwl,af,ws++[{#[c1]}++{#[c2]}],by simp,by simp[hw],λz hz'=>?_};rcases Qp.mp hz' with h|h
   ·exact hc4 z h
   rw[Qr]at h;rw[h];rfl
  obtain⟨S4,h4,ws,rfl,hw,hc4⟩:=p;have hw:ws.length=4:=hw;obtain⟨f1,f2⟩:=kr ws hc4;have e0:("" : Str)=Str.empty:=by decide +kernel
  have e00:("" : Str).length=0:=by decide +kernel
  have SS4:=SS2.trans (S3.trans S4);have hl4:=(S3.trans S4) _ _ hl2;have h24:=(S3.trans S4) _ _ h2;refine aC {"", wl,ws,rfl,rfl,SqL.of h4,by rw[f2,e00];omega,?_};rw[e0]
  have wdl:(Txt.join Str.empty ws).length=8:=by
   show (Txt.join Str.empty ws).cps.size=8;rw[<-Qs,mO,f1,hw]
  generalize Txt.join Str.empty ws=wd at *;have wd':wd.cps.size=8:=wdl;clear S2 S3 S4 h2 q3 h4 f1 f2 hw hc4 hso hsl hwl hl2 SS2;lk;have x0:0<=z4 / 4:=by omega
  generalize z4 / 4=xx at *;generalize z4 % 4=way at *;have sp:=uc (z:=wd) (j:=1+xx % 8) ⋯ ⋯ ⋯;have sle:=XO wd none (some (1+xx % 8));refine jb ⋯ ?_;have hnm:NmOk (Bd (i+1)) (Txt.slice wd none (some (1+xx % 8))):={sp,⋯};generalize Txt.slice wd none (some (1+xx % 8))=nm at *;refine az ?_;have aw:atI wd.cps.toList 0=some (wd.cps.getD 0 0):=bQ (j:=0) (by simp[Array.getD,wd']);have l1:∀c,({#[c]}:Str).length=1:=λ_=>rfl;with_reducible refine c9 (NJd d l so spot H wd i ns) (λR hR=>?_) (λσ6 H6 j6=>?_)
  ·lk;refine eW (λ_=>?_) (λ_=>hR _ _ ⟨way,xx,nm,x10,x11,rfl,x0,hnm,hl4,SS4⟩);lk;refine{by show 1<=sizeLine;decide,λp hp=>?_};generalize hE:upd _ p _=H5;have S5:ao H4 H5:=by rw[<-hE];exact ag hp
   have q5:H5 p=some (.lst [.str wd]):=by rw[<-hE];exact af
   clear hE;have hl5:=S5 _ _ hl4;refine gG hl5 q5 (by rw[Qa];simp;omega) λp2 hp2=>?_;rw[show ns.map V.str++[V.str wd]=(ns++[wd]).map V.str from by simp];generalize hE:upd _ p2 _=H6;have S6:ao H5 H6:=by rw[<-hE];exact ag hp2
   have q6:H6 p2=some (.lst ((ns++[wd]).map V.str)):=by rw[<-hE];exact af
   clear hE
   obtain⟨a0,ha0,ea0,la0⟩:∃a0,a0∈ns++[wd]/\atI ((ns++[wd]).map V.str) 0=some (.str a0)/\a0.length<Bd i:=by
    cases ens:ns with
    | nil=>exact{wd,by simp,rfl,⋯}
    | cons a r=>exact{a,by simp,bQ (j:=0) (by simp),(good a (by rw[ens];simp)).lt}
   lk;refine bd (SqL.of q6) ea0 ?_;lk;refine jb ⋯ ?_;lk;refine gF ⋯ aw ?_;have sl:=XO a0 none (some (xx % 8));refine{_,_,rfl,rfl,by rw[l1];omega,?_};refine az (hR _ _ {way,xx,_,x10,x11,rfl,x0,?_,(S5.trans S6) _ _ hl4,SS4.trans (S5.trans S6)});exact{by rw[lap,l1];omega,by rw[lap,l1];omega}
  clear hnm SS4 hl4 h24 x0;with_reducible refine c9 (NJd d l so spot H wd i ns) (λR hR=>?_) (λσ7 H7 j7=>?_)
  ·obtain⟨way,xx,nm,x10,x11,rfl,x0,hnm,hl6,SS6⟩:=j6;have out:∀H',ao H6 H'->R [some (.ref d),some (.int spot),some (.str Lt),some (.ref l),some (.int (0+i)),some (.ref so),some (.str wd),some (.int way),some (.int xx),some (.str nm),x10,x11] H':=λH' kq=>hR _ _ {way,xx,nm,x10,x11,rfl,x0,hnm,kq _ _ hl6,SS6.trans kq};lk;refine eW (λ_=>?_) (λ_=>?_)
   ·lk;refine{by decide,λp hp=>?_};have S7:=ag (o:=.lst []) hp;have hl7:=S7 _ _ hl6;refine{l,p,_,[],λ_=>true,rfl,rfl,SqL.of hl7,SqL.of af,(λj x y _ h=>by simp at h),{_,rfl,?_} };refine eW (λhne=>?_) (λ_=>out _ S7);have nne:ns≠[]:=λz=>by subst z;simp at hne
    obtain⟨la,hla,ela⟩:=yx nne;have gla:=good la hla;have gp:=gla.pos;have gl:=gla.lt;have SS8:=SS6.trans S7;generalize upd H6 p (.lst [])=H8 at *;lk;refine bd (SqL.of hl7) ela ?_;lk;refine{_,rfl,⋯,?_};refine dj ⋯ ?_;lk;refine bd (SqL.of hl7) ela ?_;lk;refine jb ⋯ ?_;lk;refine gF ⋯ aw ?_;generalize xx % (la.length:Int)=at1 at *;have sl1:=XO la none (some at1);have sl2:=XO la (some (at1+1)) none;refine{_,_,rfl,rfl,by rw[l1];omega,?_};lk;refine bd (SqL.of hl7) ela ?_;lk;refine jb ⋯ ?_;refine{_,_,rfl,rfl,by rw[lap,l1];omega,?_};refine az (hR _ _ {way,xx,_,_,x11,rfl,x0,?_,hl7,SS8});exact{by rw[lap,lap,l1];omega,by rw[lap,lap,l1];omega}
   first|exact out _ (ao.refl _)|exact di (out _ (ao.refl _))
  with_reducible refine c9 (NJd d l so spot H wd i ns) (λR hR=>?_) (λσ8 H8 j8=>?_)
  ·obtain⟨way,xx,nm,x10,x11,rfl,x0,hnm,hl6,SS6⟩:=j7;lk;refine eW (λ_=>?_) (λ_=>hR _ _ ⟨way,xx,nm,x10,x11,rfl,x0,hnm,hl6,SS6⟩);lk;refine{by decide +kernel,λp hp=>?_};have S7:=ag (o:=.lst ((["a", "wire", "not", "and", "or", "zzzzzzzz", "in", "start", "none", "end"]:List Str).map V.str)) hp;have hl7:=S7 _ _ hl6;have hp7:upd H7 p (.lst ((["a", "wire", "not", "and", "or", "zzzzzzzz", "in", "start", "none", "end"]:List Str).map V.str)) p=some (.lst ((["a", "wire", "not", "and", "or", "zzzzzzzz", "in", "start", "none", "end"]:List Str).map V.str)):=af;show tOp _ _ _ _ (upd H7 p (.lst ((["a", "wire", "not", "and", "or", "zzzzzzzz", "in", "start", "none", "end"]:List Str).map V.str))) _;have SS8:=SS6.trans S7;generalize upd H7 p (.lst ((["a", "wire", "not", "and", "or", "zzzzzzzz", "in", "start", "none", "end"]:List Str).map V.str))=H8 at *;obtain⟨pw,hw,ew⟩:=tS (ws:=["a", "wire", "not", "and", "or", "zzzzzzzz", "in", "start", "none", "end"]) (r:=xx % 10) ⋯ (by show xx % 10<10;omega);lk;refine bd (SqL.of hp7) ew ?_;refine az (hR _ _ {way,xx,pw,x10,x11,rfl,x0,?_,hl7,SS8});have hh:∀wd∈(["a", "wire", "not", "and", "or", "zzzzzzzz", "in", "start", "none", "end"]:List Str),1<=wd.length/\wd.length<=8:=by decide +kernel
   obtain⟨q1,q2⟩:=hh pw hw;exact{q1,⋯}
  obtain⟨way,xx,nm,x10,x11,e,x0,hnm,hl6,SS6⟩:=j8;subst e;with_reducible refine s_seq (bp (i_c (az ?_)))
  let I13:IvJ:=λU H'=>∃(t:Int) (nm:Str),U=[some (.ref d),some (.int spot),some (.str Lt),some (.ref l),some (.int (0+i)),some (.ref so),some (.str wd),some (.int way),some (.int xx),some (.str nm),x10,some (.int t)]/\NmOk (Bd (i+1)) nm/\nm∉ns/\H'=H8;with_reducible refine c9 I13 (λR hR=>?_) (λσ9 H9 j9=>?_)
  ·let I14:IvF:=λn U H'=>∃(t:Nat) (nm:Str),n=26-t/\t<=11/\U=[some (.ref d),some (.int spot),some (.str Lt),some (.ref l),some (.int (0+i)),some (.ref so),some (.str wd),some (.int way),some (.int xx),some (.str nm),x10,some (.int t)]/\NmOk (Bd (i+1)) nm/\H'=H8/\(∀j,j+1<t->Xn j∈ns)/\(1<=t->nm=Xn (t-1));refine{I14,{26,0,nm,rfl,⋯,rfl,hnm,rfl,(λj h=>by omega),(λh=>by omega)},?_};rintro n U H' ⟨t,nm,rfl,t11,rfl,hnm,rfl,q1,q2⟩;have z26:((Lt.cps.size:Nat):Int)=26:=by decide +kernel
   lk;refine Fe (SqL.of hl6) rfl (uX ns) ?_;refine{_,rfl,?_};refine eW (λhin=>?_) (λhin=>?_)
   ·have hmem:=oz.mp hin
    have hall:∀j,j<t->Xn j∈ns:=λj hj=>by
     by_cases z:j+1<t
     ·exact q1 j z
     have:j=t-1:=by omega
     rw[this,<-q2 ⋯];exact hmem
    have ht:=D6 ⋯ hall;refine{_,λσ' H' w=>{26-(t+1),Nat.sub_lt_sub_left (XB t11 (by decide)) (Nat.lt_succ_self _),w},?_};lk
    have et:atI Lt.cps.toList ((t:Nat):Int)=some (Lt.cps.getD t 0):=by
     refine bQ ?_;have:t<Lt.cps.size:=by omega
     simp[Array.getD,this]
    refine gF (by decide +kernel) et ?_;lk;refine{_,_,rfl,rfl,DS _,?_};lk;refine{t+1,Xn t,rfl,⋯,rfl,?_,rfl,(λj hj=>hall j ⋯),(λ_=>rfl)};have:=A3 t ⋯;exact{⋯,⋯}
   exact hR _ _ {t,nm,rfl,hnm,λz=>hin (oz.mpr z),rfl}
  obtain⟨t,nm,e,hnm,hnot,e9⟩:=j9;subst e e9;lk;refine dr hl6 (by rw[Qa];omega) ?_;refine{_,_,_,_,_,_,_,_,ns++[nm],rfl,⋯,by simp[hn],?_,λn hn'=>?_,by rw[af];simp,aN SS6 hl}
  ·rw[Xz]
   exact{nd,by simp,λa ha b hb e=>hnot (by
    have hb':b=nm:=by simpa using hb
    rw[<-hb',<-e];exact ha)}
  rcases Qp.mp hn' with h|h
  ·have g:=good n h;have g1:=g.pos;have g2:=g.lt;exact{g1,⋯}
  have:n=nm:=by simpa using h
  rw[this];exact hnm
 obtain⟨x4,x5,x6,x7,x8,x9,x10,x11,ns,rfl,_,hn,nd,good,hl',SS⟩:=pv;refine ck (te:=bV 3) (D:={ nx:=λx H'=>Q V.non H',rt:=Q }) (aj rfl ?_);exact k l ns H' SS hl hn nd hl'
end
structure KpP (q:Addr) (H H':Hp):Prop where
 old:∀b o,H b=some o->b≠q->H' b=some o
 at':∃n:Int,H' q=some (.lst [.int n])
theorem KpP.trans (a:KpP q H H1) (b:KpP q H1 H2):KpP q H H2:={λc o e n=>b.old c o (a.old c o e n) n,b.at'}
theorem KpP.of (h:∃n:Int,H q=some (.lst [.int n])) (S:ao H H'):KpP q H H':={λb o e _=>S b o e,let ⟨n,e⟩:=h;{n,S _ _ e} }
theorem KpP.new (k:KpP q H H') (hp:H' p=none):KpP q H (upd H' p o):=k.trans (KpP.of k.at' (ag hp))
theorem KpP.tups (h:∃n:Int,H q=some (.lst [.int n])) (k:KpP q H H'):dy H H':=λb xs e=>k.old b _ e λz=>by obtain⟨n,h⟩:=h;rw[z,h]at e;cases e
theorem KpP.strs (h:∃n:Int,H q=some (.lst [.int n])) (k:KpP q H H') (e:H l=some (.lst (ns.map V.str))):H' l=some (.lst (ns.map V.str)):=k.old l _ e λz=>by
 obtain⟨n,h⟩:=h;rw[z,h]at e;have e:=Q0 e;injection e with e
 cases ns with
 | nil=>cases e
 | cons a r=>simp at e
theorem KpP.ints {ns:List Int} (h:∃n:Int,H q=some (.lst [.int n])) (k:KpP q H H') (ok:DOk ns) (e:H l=some (.lst (ns.map V.int))):H' l=some (.lst (ns.map V.int)):=k.old l _ e λz=>by
 obtain⟨n,h⟩:=h;rw[z,h]at e;have e:=Q0 e;injection e with e;have lo:=ok.lo;have:=congrArg List.length e;simp at this;omega
def jt (d:Nat):Sp:=λvs H Q _=>∃(da qa l:Addr) (ds:List Int) (ns:List Str) (m:Nat),vs=[.ref da,.ref qa,.ref l,.int m]/\H da=some (.lst (ds.map V.int))/\DOk ds/\(∃n:Int,H qa=some (.lst [.int n]))/\H l=some (.lst (ns.map V.str))/\ns≠[]/\ns.length<=1000/\1<=m/\m<=d /\
 ∀v r H',RAt H' v r->r.ok ns->r.dep<=m->KpP qa H H'->Q v H'
def qW:Sp:=λvs H Q _=>∃v1 v2 v3 r1 r2 r3,vs=[v1,v2,v3]/\RAt H v1 r1/\RAt H v2 r2/\RAt H v3 r3/\∀v H',ao H H'->RAt H' v (.orr (.an r1 r2) (.an r3 (.orr r1 r2)))->Q v H'
theorem tT (ne:ns≠[]) (i:Int):∃n∈ns,atI (ns.map V.str) (i % ((ns.map V.str).length:Int))=some (.str n):=by
 have hl:0<ns.length:=List.length_pos_iff.mpr ne;rw[Qa];have h1:0<=i % (ns.length:Int):=Int.emod_nonneg _ ⋯;have h2:i % (ns.length:Int)<ns.length:=XU _ ⋯;exact tS h1 h2
section
theorem pL:FnScope ["d", "pos", "names", "deep", "x", "way", "one"] ["d", "pos", "names", "deep"] (aB (top 36)):=by fin2
theorem qc {f:Addr} {fd:FuncData} (Fu:Fun K "_law_rule" "_law_rule" (top 36) f fd) (T:Txt K mg TT) (hm:mg "_law_rule" = some (.ref f)) (hk:PySem.W.keepIn K (.ref f)=true) (hb:gJ K fd ["d", "pos", "names", "deep"] []):∀d,FnOk P w K mg base CX0 (d+1) f fd ["d", "pos", "names", "deep"] (jt d)
 | 0=>gU λvs H Q E ⟨_,_,_,_,_,m,_,_,_,_,_,_,_,h1,h2,_⟩=>by omega
 | d+1=>by
  have S:=pL;have f_law_rule:Fn P w K mg base "_law_rule" ["d", "pos", "names", "deep"] (d+1) (jt d):={f,fd,qc Fu T hm hk hb d,hm,hk,hb};refine Fu.ok S (λvs H Q E h=>?_) (λcdv A outer s H vs Q E hr h=>?_)
  ·obtain⟨da,qa,l,ds,ns,m,rfl,_⟩:=h;rfl
  obtain⟨da,qa,l,ds,ns,m,rfl,hd,dok,⟨n0,hq⟩,hl,ne,few,m1,m2,k⟩:=h;refine'{?_,?bb,?_}
  case bb =>
   walk_at "b";exact aF 4 S.nd (aD aH (pv 0) (ap aR (aD aH (pv 1) ae) (aE aI (by rfl) T.n_len QJ (aa (pv 0) ad ai))));exact(j_ (ap aO (aD aH (pv 1) ae) ae) (vR (pv 1) ae pE));exact aF 5 S.nd (ap aR (pv 4) ae);exact(PW.pt (ij (aM kz (pv 3) ae (aP _)) (fP (aM kz (pv 5) ae (aP _)))));exact(aK (bq (aa aU (aa (aD aH (pv 2) (ap aR (ap cI (pv 4) ae) (aE aI (by rfl) T.n_len QJ (aa (pv 2) ad ai)))) ad) aL)));exact(aM kz (pv 5) ae (aP _));exact(aK (bq (aa aU (aa (aS f_law_rule hr (aa (pv 0) (aa (pv 1) (aa (pv 2) (aa (ap fV (pv 3) ae) ad) ai) ai) ai)) ad se_call) aL)));exact aF 6 S.nd (aS f_law_rule hr (aa (pv 0) (aa (pv 1) (aa (pv 2) (aa (ap fV (pv 3) ae) ad) ai) ai) ai));refine' aK ?e
   case e =>
    walk_at "q";exact(aD aH (aY (aa aU (aa aU ad aL) aL)) (ap aR (ap cI (pv 4) ae) ae));exact(pv 6);exact(aS f_law_rule hr (aa (pv 0) (aa (pv 1) (aa (pv 2) (aa (ap fV (pv 3) ae) ad se_bin) ai) ai) ai))
  x_go;have lo:=dok.lo;have nl:1<=ns.length:=List.length_pos_iff.mpr ne;lk;refine dj (by rw[Qa];omega) ?_;obtain⟨x,x0,x1,ex⟩:=lB dok n0;refine bd (SqL.of hd) ex ?_;lk;generalize hE:upd H qa _=H1;have kp1:KpP qa H H1:={λb o e nb=>by rw[<-hE,am nb];exact e,n0+1,by rw[<-hE];exact af};clear hE;have hq0:∃n:Int,H qa=some (.lst [.int n]):=⟨n0,hq⟩;have hl1:=kp1.strs hq0 hl;have hd1:=kp1.ints hq0 dok hd
  have leaf:nj (bj (tC (V.str "wire")) (bj (tOp (rb K) (bV 2) (tOp (rI (λx j=>0<j) λi j=>V.int (i % j)) (tOp (rI Eg λi j=>V.int (i / j)) (bV 4) (tC (V.int 7))) (tCB (λxs H Q=>∃p ys,xs=[V.ref p]/\(SqL K H p ys\/SqT K H p ys)/\Q (V.int ↑ys.length) H) (bj (bV 2) dW)))) dW))
    [some (.ref da),some (.ref qa),some (.ref l),some (.int m),some (.int x),some (.int (x % 7)),none] H1 Q:=by
   lk;refine dj (by rw[Qa];omega) ?_;obtain⟨nm,hnm,enm⟩:=tT ne (x / 7);refine bd (SqL.of hl1) enm ?_;lk;refine{by simp[sizeLine],λp hp=>?_};exact k _ (.w nm) _ (.w af) hnm (by simp[Rl.dep];omega) (kp1.new hp)
  refine eW (λh1=>?_) (λh1=>?_)
  ·exact b9 leaf
  have m3:2<=m:=by
   by_cases z:m=1
   ·exact absurd (by rw[z];decide) h1
   omega
  lk;refine eW (λh2=>?_) (λh2=>?_)
  ·exact leaf
  have em:(m:Int)-1=((m-1:Nat):Int):=by omega
  lk;refine eW (λh3=>?_) (λh3=>?_)
  ·lk;refine{da,qa,l,ds,ns,m-1,by rw[<-em],hd1,dok,kp1.at',hl1,ne,few,⋯,⋯,λv r H2 hv rok rd kp2=>?_};lk;refine{by simp[sizeLine],λp hp=>?_};exact k _ (.no r) _ (.no af (hv.mono (ao.tups (ag hp)))) rok (by simp only[Rl.dep];omega) ((kp1.trans kp2).new hp)
  lk;refine{da,qa,l,ds,ns,m-1,by rw[<-em],hd1,dok,kp1.at',hl1,ne,few,⋯,⋯,λv r H2 hv rok rd kp2=>?_};have hl2:=kp2.strs kp1.at' hl1;have hd2:=kp2.ints kp1.at' dok hd1;have kp12:=kp1.trans kp2;lk;refine{by simp[sizeLine],λp hp=>?_};have hpp:upd H2 p (HO.lst [V.str "and", V.str "or"]) p=some (.lst ((["and", "or"]:List Str).map V.str)):=af;have S3:=ag (o:=HO.lst [V.str "and", V.str "or"]) hp;have kp3:=KpP.of kp2.at' S3;generalize upd H2 p (HO.lst [V.str "and", V.str "or"])=H3 at *;have hv3:=hv.mono (ao.tups S3);have hl3:=S3 _ _ hl2;have hd3:=S3 _ _ hd2;lk
  have last:∀(wd:Str) (mk:Rl->Rl->Rl),(∀{H:Hp} {a:Addr} {v u:V} {r s:Rl},H a=some (.tup [.str wd,v,u])->RAt H v r->RAt H u s->RAt H (.ref a) (mk r s))->(∀r s,(mk r s).dep=max r.dep s.dep+1)->(∀r s,r.ok ns->s.ok ns->(mk r s).ok ns) ->
    bj (bV 6) (bj (i5 (jt d) [] E0 (bj (bV 0) (bj (bV 1) (bj (bV 2) (bj (tOp (rI0 λi j=>V.int (i-j)) (bV 3) (tC (V.int 1))) dW))))) dW) [some (.ref da),some (.ref qa),some (.ref l),some (.int m),some (.int x),some (.int (x % 7)),some v] H3
     λxs H5=>(V.str wd::xs).length<=sizeLine/\∀p,H5 p=none->Q (.ref p) (upd H5 p (.tup (V.str wd::xs))):=by
   intro wd mk c1 c2 c3;lk;refine{da,qa,l,ds,ns,m-1,by rw[<-em],hd3,dok,kp3.at',hl3,ne,few,⋯,⋯,λv2 s2 H5 hv2 rok2 rd2 kp5=>?_};lk;refine{by simp[sizeLine],λp hp=>?_};have S6:=ag (o:=HO.tup [V.str wd,v,v2]) hp;exact k _ (mk r s2) _ (c1 af ((hv3.mono (kp5.tups kp3.at')).mono (ao.tups S6)) (hv2.mono (ao.tups S6))) (c3 _ _ rok rok2) (by rw[c2];omega) ((kp12.trans (kp3.trans kp5)).new hp)
  have hr2:x / 7 % 2=0\/x / 7 % 2=1:=by omega
  rcases hr2 with z|z
  ·rw[z];refine bd (SqL.of hpp) (v:=.str "and") rfl ?_;exact last "and" .an (λa b c=>.an a b c) (λ_ _=>rfl) (λ_ _ a b=>⟨a,b⟩)
  rw[z];refine bd (SqL.of hpp) (v:=.str "or") rfl ?_;exact last "or" .orr (λa b c=>.orr a b c) (λ_ _=>rfl) (λ_ _ a b=>⟨a,b⟩)
theorem pM:FnScope ["one", "other", "own"] ["one", "other", "own"] (aB (top 37)):=by fin2
theorem ya {f:Addr} {fd:FuncData} (Fu:Fun K "_law_held" "_law_held" (top 37) f fd) (T:Txt K mg TT):FnOk P w K mg base CX0 1 f fd ["one", "other", "own"] qW:=by
 have S:=pM;refine Fu.ok S (by room) (λcdv A outer s H vs Q E hr h=>?_);obtain⟨v1,v2,v3,r1,r2,r3,rfl,h1,h2,h3,k⟩:=h;refine{_,(a9 (aK (bq (aa aU (aa (bq (aa aU (aa (pv 0) (aa (pv 1) ad ai) ai) aL)) (aa (bq (aa aU (aa (pv 2) (aa (bq (aa aU (aa (pv 0) (aa (pv 1) ad ai) ai) aL)) ad se_tup) ai) aL)) ad se_tup) se_tup) aL)))),?_};x_go;lk;refine{by simp[sizeLine],λp1 hp1=>?_};have S1:=ag (o:=.tup [.str "and", v1,v2]) hp1;have q1:upd H p1 (.tup [.str "and", v1,v2]) p1=some (.tup [.str "and", v1,v2]):=af;generalize upd H p1 (.tup [.str "and", v1,v2])=H1 at *;lk;refine{by simp[sizeLine],λp2 hp2=>?_};have S2:=ag (o:=.tup [.str "or", v1,v2]) hp2;have q2:upd H1 p2 (.tup [.str "or", v1,v2]) p2=some (.tup [.str "or", v1,v2]):=af;generalize upd H1 p2 (.tup [.str "or", v1,v2])=H2 at *;lk;refine{by simp[sizeLine],λp3 hp3=>?_};have S3:=ag (o:=.tup [.str "and", v3,.ref p2]) hp3;have q3:upd H2 p3 (.tup [.str "and", v3,.ref p2]) p3=some (.tup [.str "and", v3,.ref p2]):=af;generalize upd H2 p3 (.tup [.str "and", v3,.ref p2])=H3 at *;lk;refine{by simp[sizeLine],λp4 hp4=>?_};have S4:=ag (o:=.tup [.str "or", .ref p1,.ref p3]) hp4;have S14:=S1.trans (S2.trans (S3.trans S4));have m1:=h1.mono (ao.tups S14);have m2:=h2.mono (ao.tups S14);have m3:=h3.mono (ao.tups S14);exact k _ _ S14 (.orr af (.an ((S2.trans (S3.trans S4)) _ _ q1) m1 m2) (.an (S4 _ _ q3) m3 (.orr ((S3.trans S4) _ _ q2) m1 m2)))
end
def jP:Sp:=λvs H Q _=>∃(da qa l:Addr) (ds:List Int) (ns:List Str) (v:V) (r:Rl),vs=[.ref da,.ref qa,.ref l,v]/\H da=some (.lst (ds.map V.int))/\DOk ds/\(∃n:Int,H qa=some (.lst [.int n]))/\H l=some (.lst (ns.map V.str))/\ns≠[]/\ns.length<=1000/\RAt H v r/\r.ok ns/\r.dep<=6 /\
 ∀v' r' H',RAt H' v' r'->r'.ok ns->r'.dep<=10->KpP qa H H'->Q v' H'
section
theorem lT:FnScope ["d", "pos", "names", "rule", "many", "k", "x", "one"] ["d", "pos", "names", "rule"] (aB (top 39)):=by fin2
theorem uF {f:Addr} {fd:FuncData} (Fu:Fun K "_law_deeper" "_law_deeper" (top 39) f fd) (T:Txt K mg TT):FnOk P w K mg base CX0 1 f fd ["d", "pos", "names", "rule"] jP:=by
 have S:=lT;refine Fu.ok S (by room) (λcdv A outer s H vs Q E hr h=>?_);obtain⟨da,qa,l,ds,ns,v,r,rfl,hd,dok,⟨n0,hq⟩,hl,ne,few,hv,rok,rd,k⟩:=h;refine'{?_,?bb,?_}
 case bb =>
  walk_at "b";exact aF 4 S.nd (ap aR (aD aH (pv 0) (ap aR (aD aH (pv 1) ae) (aE aI (by rfl) T.n_len QJ (aa (pv 0) ad ai)))) ae);walk_at "f";exact(ce (by rfl) T.n_range (aa (pv 4) ad ai));exact(bO 5 S.nd);walk_at "p";exact(j_ (ap aO (aD aH (pv 1) ae) ae) (vR (pv 1) ae pE));exact aF 6 S.nd (aD aH (pv 0) (ap aR (aD aH (pv 1) ae) (aE aI (by rfl) T.n_len QJ (aa (pv 0) ad ai))));exact aF 7 S.nd (bq (aa aU (aa (aD aH (pv 2) (ap aR (pv 6) (aE aI (by rfl) T.n_len QJ (aa (pv 2) ad ai)))) ad) aL));exact aF 3 S.nd (aD aH (aY (aa (bq (aa aU (aa (pv 3) ad ai) aL)) (aa (bq (aa aU (aa (pv 7) (aa (pv 3) ad ai) ai) aL)) (aa (bq (aa aU (aa (pv 3) (aa (pv 7) ad ai) ai) aL)) (aa (bq (aa aU (aa (pv 7) (aa (pv 3) ad ai) ai) aL)) ad se_tup) se_tup) se_tup) se_tup)) (ap aR (ap cI (pv 6) ae) ae));exact(aK (pv 3))
 x_go;have lo:=dok.lo;have nl:1<=ns.length:=List.length_pos_iff.mpr ne;lk;refine dj (by rw[Qa];omega) ?_;obtain⟨x,x0,x1,ex⟩:=lB dok n0;refine bd (SqL.of hd) ex ?_;lk;refine{⋯,⋯,?_};have h4:(x % 5).toNat<=4:=by omega
 have hq0:∃n:Int,H qa=some (.lst [.int n]):=⟨n0,hq⟩;let I15:IvF:=λi U H'=>∃v' r' x4 x5 x6 x7,U=[some (.ref da),some (.ref qa),some (.ref l),some v',x4,x5,x6,x7]/\RAt H' v' r'/\r'.ok ns/\r'.dep<=6+i/\KpP qa H H';refine cV I15 {v,r,_,_,_,_,rfl,hv,rok,rd,KpP.of hq0 (ao.refl _)} (λi U H' hi pv=>?_) (λU H' pv=>?_)
 ·obtain⟨v',r',x4,x5,x6,x7,rfl,hv',rok',rd',kp⟩:=pv;obtain⟨n1,hq1⟩:=kp.at';have hd1:=kp.ints hq0 dok hd;have hl1:=kp.strs hq0 hl;refine az ?_;lk;generalize hE:upd H' qa _=H1;have kp1:KpP qa H' H1:={λb o e nb=>by rw[<-hE,am nb];exact e,n1+1,by rw[<-hE];exact af};have hq2:H1 qa=some (.lst [.int (n1+1)]):=by rw[<-hE];exact af
  clear hE;have hqe:∃n:Int,H' qa=some (.lst [.int n]):=⟨n1,hq1⟩;have hd2:=kp1.ints hqe dok hd1;have hl2:=kp1.strs hqe hl1;have hv2:=hv'.mono (kp1.tups hqe);lk;refine dj (by rw[Qa];omega) ?_;obtain⟨y,y0,y1,ey⟩:=lB dok (n1+1);refine bd (SqL.of hd2) ey ?_;lk;refine dj (by rw[Qa];omega) ?_;obtain⟨nm,hnm,enm⟩:=tT ne y;refine bd (SqL.of hl2) enm ?_;lk;refine{by simp[sizeLine],λp0 hp0=>?_};generalize hE:upd H1 p0 _=H2;have S2:ao H1 H2:=by rw[<-hE];exact ag hp0
  have o2:RAt H2 (.ref p0) (.w nm):=by rw[<-hE];exact .w af
  clear hE;have hv3:=hv2.mono (ao.tups S2);lk;refine{by simp[sizeLine],λp1 hp1=>?_};generalize hE:upd H2 p1 _=H3;have S3:ao H2 H3:=by rw[<-hE];exact ag hp1
  have a1:RAt H3 (.ref p1) (.no r'):=by rw[<-hE];exact .no af (hv3.mono (ao.tups (ag hp1)))
  clear hE;have hv4:=hv3.mono (ao.tups S3);have o3:=o2.mono (ao.tups S3);lk;refine{by simp[sizeLine],λp2 hp2=>?_};generalize hE:upd H3 p2 _=H4;have S4:ao H3 H4:=by rw[<-hE];exact ag hp2
  have a2:RAt H4 (.ref p2) (.an (.w nm) r'):=by rw[<-hE];exact .an af (o3.mono (ao.tups (ag hp2))) (hv4.mono (ao.tups (ag hp2)))
  clear hE;have hv5:=hv4.mono (ao.tups S4);have o4:=o3.mono (ao.tups S4);lk;refine{by simp[sizeLine],λp3 hp3=>?_};generalize hE:upd H4 p3 _=H5;have S5:ao H4 H5:=by rw[<-hE];exact ag hp3
  have a3:RAt H5 (.ref p3) (.orr r' (.w nm)):=by rw[<-hE];exact .orr af (hv5.mono (ao.tups (ag hp3))) (o4.mono (ao.tups (ag hp3)))
  clear hE;have hv6:=hv5.mono (ao.tups S5);have o5:=o4.mono (ao.tups S5);lk;refine{by simp[sizeLine],λp4 hp4=>?_};generalize hE:upd H5 p4 _=H6;have S6:ao H5 H6:=by rw[<-hE];exact ag hp4
  have a4:RAt H6 (.ref p4) (.orr (.w nm) r'):=by rw[<-hE];exact .orr af (o5.mono (ao.tups (ag hp4))) (hv6.mono (ao.tups (ag hp4)))
  clear hE;lk;refine{by simp[sizeLine],λp5 hp5=>?_};generalize hE:upd H6 p5 _=H7;have S7:ao H6 H7:=by rw[<-hE];exact ag hp5
  have q7:H7 p5=some (.lst [.ref p1,.ref p2,.ref p3,.ref p4]):=by rw[<-hE];exact af
  clear hE;lk;have kp7:KpP qa H H7:=kp.trans (kp1.trans (KpP.of kp1.at' (S2.trans (S3.trans (S4.trans (S5.trans (S6.trans S7)))))));have hr2:y / 11 % 4=0\/y / 11 % 4=1\/y / 11 % 4=2\/y / 11 % 4=3:=by omega
  rcases hr2 with z|z|z|z
  ·rw[z];refine bd (SqL.of q7) (v:=.ref p1) rfl ?_;exact az {_,_,_,_,_,_,rfl,a1.mono (ao.tups (S4.trans (S5.trans (S6.trans S7)))),rok',by simp only[Rl.dep];omega,kp7}
  ·rw[z];refine bd (SqL.of q7) (v:=.ref p2) rfl ?_;exact az {_,_,_,_,_,_,rfl,a2.mono (ao.tups (S5.trans (S6.trans S7))),⟨hnm,rok'⟩,by simp only[Rl.dep];omega,kp7}
  ·rw[z];refine bd (SqL.of q7) (v:=.ref p3) rfl ?_;exact az {_,_,_,_,_,_,rfl,a3.mono (ao.tups (S6.trans S7)),⟨rok',hnm⟩,by simp only[Rl.dep];omega,kp7}
  rw[z];refine bd (SqL.of q7) (v:=.ref p4) rfl ?_;exact az {_,_,_,_,_,_,rfl,a4.mono (ao.tups S7),⟨hnm,rok'⟩,by simp only[Rl.dep];omega,kp7}
 obtain⟨v',r',x4,x5,x6,x7,rfl,hv',rok',rd',kp⟩:=pv;refine ck (te:=bV 3) (D:={ nx:=λx H'=>Q V.non H',rt:=Q }) (aj rfl ?_);exact k v' r' H' hv' rok' ⋯ kp
end
def nth (ns:List Str) (k:Nat):Str:=ns.getD k Str.empty
theorem AC (hl:ns.length=11) {j:Int} {k:Nat} (e:j=(k:Int)) (hk:k<11):atI (ns.map V.str) j=some (.str (nth ns k)):=by
 subst e;refine bQ ?_;unfold nth;rw[Qi,QQ,Qc ⋯];rfl
theorem ye (nd:ns.Nodup) (hl:ns.length=11) {a b:Nat} (ha:a<11) (hb:b<11) (e:nth ns a=nth ns b):a=b:=by
 unfold nth at e;rw[QQ,QQ,Qc ⋯,Qc ⋯]at e;have e1:=List.Nodup.idxOf_getElem nd a ⋯;have e2:=List.Nodup.idxOf_getElem nd b ⋯;simp only[Option.getD_some]at e;rw[e,e2]at e1;exact e1.symm
theorem wv {ns:List Str} (nd:ns.Nodup) (hl:ns.length=11):∀{L:List Nat},L.Nodup->(∀k∈L,k<11)->(L.map (nth ns)).Nodup
 | [],_,_=>List.nodup_nil
 | a::L,h,hb=>by
  rw[Q4]at h;rw[QM,Q4];refine{λz=>?_,wv nd hl h.2 λk hk=>hb k (Qx _ hk)};obtain⟨b,hb',e⟩:=Qj.mp z;have:=ye nd hl (hb b (Qx _ hb')) (hb a (by simp)) e;exact h.1 (this▸hb')
theorem kD (nd:ns.Nodup) (hl:ns.length=11) {I G:List Nat} {R:Nat->Rl} (hn:(I++G).Nodup) (hb:∀k∈I++G,k<11) (i4:I.length<=4) (g1:1<=G.length) (g7:G.length<=7)
  (hr:∀g∈G,(R g).ok ((I++G).map (nth ns))/\(R g).dep<=10):NetOk (I.map (nth ns)) (G.map λg=>(nth ns g,R g)):=by
 have ew:aq (I.map (nth ns)) (G.map λg=>(nth ns g,R g))=(I++G).map (nth ns):=by
  unfold aq;rw[Qt,QT];rfl
 refine{by rw[ew];exact wv nd hl hn hb,by rw[Qa];exact i4,by rw[Qa];exact g1,by rw[Qa];exact g7,λg hg=>?_};obtain⟨k,hk,rfl⟩:=Qj.mp hg;rw[ew];exact hr k hk
def wN (ns:List Str) (k:Nat):Rl:=.w (nth ns k)
def R5 (ns:List Str) (k:Nat):Rl:=.orr (.an (wN ns (k-1)) (.no (wN ns (k+1)))) (.an (wN ns k) (.orr (wN ns (k-1)) (.no (wN ns (k+1)))))
def R6 (ns:List Str) (m k:Nat):Rl:=.no (wN ns ((k+1) % m))
def R7 (ns:List Str) (k:Nat):Rl:=if k=2 then .no (.orr (wN ns 0) (wN ns 3)) else if k=3 then .no (.orr (wN ns 1) (wN ns 2)) else .an (wN ns (k-2)) (wN ns (k-1))
def pC:Sp:=λvs H Q _=>∃(way:Int) (m:Nat) (l:Addr) (ns:List Str),vs=[.int way,.int m,.ref l]/\1<=m/\m<=7/\H l=some (.lst (ns.map V.str))/\ns.length=11/\ns.Nodup /\
 ∀a li lg ins gvs gs H',ao H H'->NAt H' a li lg ins gvs gs->NetOk ins gs->Q (.ref a) H'
theorem jk {L:List Nat} {k:Nat} (h:k∈L):(wN ns k).ok (L.map (nth ns)):=List.mem_map_of_mem h
theorem Fc (nd:ns.Nodup) (hl:ns.length=11) (m1:1<=m) (m7:m<=7):NetOk ([0,m+1].map (nth ns)) (((List.range m).map (·+1)).map λg=>(nth ns g,R5 ns g)):=by
 have h1:∀m,m<=7->1<=m->([0,m+1]++(List.range m).map (·+1)).Nodup/\(∀k∈[0,m+1]++(List.range m).map (·+1),k<11)/\∀g∈(List.range m).map (·+1),g-1∈[0,m+1]++(List.range m).map (·+1)/\g∈[0,m+1]++(List.range m).map (·+1)/\g+1∈[0,m+1]++(List.range m).map (·+1):=by decide
 obtain⟨a,b,c⟩:=h1 m m7 m1;refine kD nd hl a b (by show 2<=4;decide) (by simp;omega) (by simp;omega) λg hg=>?_;obtain⟨c1,c2,c3⟩:=c g hg;exact{ { {jk c1,jk c3},{jk c2,{jk c1,jk c3} } },by simp[R5,wN,Rl.dep]}
theorem Fa (nd:ns.Nodup) (hl:ns.length=11) (m1:1<=m) (m7:m<=7):NetOk (([]:List Nat).map (nth ns)) ((List.range m).map λg=>(nth ns g,R6 ns m g)):=by
 refine kD nd hl (by simpa using List.nodup_range) (λk hk=>by simp at hk;omega) (by decide) (by simp;omega) (by simp;omega) λg hg=>?_;refine{jk ?_,by simp[R6,wN,Rl.dep]};simp;exact Nat.mod_lt _ ⋯
theorem E_ (nd:ns.Nodup) (hl:ns.length=11) (j3:j<=3):NetOk ([0,1].map (nth ns)) (([2,3]++(List.range j).map (4+·)).map λg=>(nth ns g,R7 ns g)):=by
 have h1:∀j,j<=3->([0,1]++([2,3]++(List.range j).map (4+·))).Nodup/\(∀k∈[0,1]++([2,3]++(List.range j).map (4+·)),k<11)/\∀g∈[2,3]++(List.range j).map (4+·),g-1∈[0,1]++([2,3]++(List.range j).map (4+·))/\g-2∈[0,1]++([2,3]++(List.range j).map (4+·)):=by decide
 obtain⟨a,b,c⟩:=h1 j j3;refine kD nd hl a b (by decide) (by simp) (by simp;omega) λg hg=>?_;obtain⟨c1,c2⟩:=c g hg;unfold R7
 split
 ·exact{ {jk (by simp),jk (by simp)},by simp[wN,Rl.dep]}
 split
 ·exact{ {jk (by simp),jk (by simp)},by simp[wN,Rl.dep]}
 exact{ {jk c2,jk c1},by simp[wN,Rl.dep]}
theorem yr {n:Str} {r:Rl} (h:H b=some (.tup [.str n,v])) (hr:RAt H v r):GAt H (.ref b) (n,r):=⟨b,v,rfl,h,hr⟩
def Mkx (H0:Hp) (U:St) (te:TE) (R:Hp->V->Prop):Prop:=∀(H:Hp) (Q:VK),ao H0 H->(∀v H',ao H H'->R H' v->Q v H')->te U H Q
section
variable {K:PySem.W.Frag} {H0:Hp} {U:St} {t t1 t2 t3:TE} {r r1 r2 r3:Rl} {x:Str}
theorem gB {i k:Nat} {l:Addr} {ns:List Str} {ti:TE} {j:Int} (hσ:U[i]?=some (some (.ref l))) (hl:H0 l=some (.lst (ns.map V.str))) (ln:ns.length=11) (hk:k<11) (hi:∀(H:Hp) (Q:VK),Q (.int j) H->ti U H Q) (ej:j=(k:Int)) :
  Mkx H0 U (tOp (rb K) (bV i) ti) λ_ v=>v=.str (nth ns k):=λH Q S q=>aV (aj hσ (hi H _ (bd (SqL.of (S _ _ hl)) (AC ln ej hk) (q _ _ (ao.refl _) rfl))))
variable {R1 R R':Hp->V->Prop}
theorem n_ {R2:Hp->V->Prop} (k1:∀{H H':Hp} {v},ao H H'->R1 H v->R1 H' v) (k2:∀{H H':Hp} {v},ao H H'->R2 H v->R2 H' v) (h1:Mkx H0 U t1 R1) (h2:Mkx H0 U t2 R2) :
  Mkx H0 U (nj (bj t1 (bj t2 dW))) λH v=>∃b u w,v=.ref b/\H b=some (.tup [u,w])/\R1 H u/\R2 H w:=λH Q S q=>i_tup (ak (h1 H _ S λu H1 S1 a1=>ak (h2 H1 _ (S.trans S1) λw H2 S2 a2=>aC {by simp[sizeLine],λp hp=>by
 have S3:=ag (o:=.tup [u,w]) hp
 exact q _ _ (S1.trans (S2.trans S3)) {p,u,w,rfl,af,k1 (S2.trans S3) a1,k2 S3 a2} })))
theorem ww {c:V}:Mkx H0 U (tC c) λ_ v=>v=c:=λH Q S q=>i_c (q _ _ (ao.refl _) rfl)
theorem rE (h:Mkx H0 U t R) (f:∀{H v},R H v->R' H v):Mkx H0 U t R':=λH Q S q=>h H Q S λv H' S' a=>q v H' S' (f a)
theorem lW (h:Mkx H0 U t λ_ v=>v=.str x):Mkx H0 U (nj (bj (tC (.str "wire")) (bj t dW))) λH v=>RAt H v (.w x) :=
 rE (n_ (λ_ e=>e) (λ_ e=>e) ww h) λ⟨b,u,w,e,hb,e1,e2⟩=>by subst e e1 e2;exact .w hb
theorem s_ (h:Mkx H0 U t λH v=>RAt H v r):Mkx H0 U (nj (bj (tC (.str "not")) (bj t dW))) λH v=>RAt H v (.no r) :=
 rE (n_ (λ_ e=>e) (λS e=>e.mono (ao.tups S)) ww h) λ⟨b,u,w,e,hb,e1,e2⟩=>by subst e e1;exact .no hb e2
theorem ql (h1:Mkx H0 U t1 λ_ v=>v=.str x) (h:Mkx H0 U t λH v=>RAt H v r):Mkx H0 U (nj (bj t1 (bj t dW))) λH v=>GAt H v (x,r) :=
 rE (n_ (λ_ e=>e) (λS e=>e.mono (ao.tups S)) h1 h) λ⟨b,u,w,e,hb,e1,e2⟩=>by subst e e1;exact yr hb e2
theorem rD {c:Str} (h1:Mkx H0 U t1 λH v=>RAt H v r1) (h2:Mkx H0 U t2 λH v=>RAt H v r2) (f:∀{H:Hp} {b:Addr} {u w:V},H b=some (.tup [.str c,u,w])->RAt H u r1->RAt H w r2->RAt H (.ref b) r) :
  Mkx H0 U (nj (bj (tC (.str c)) (bj t1 (bj t2 dW)))) λH v=>RAt H v r:=λH Q S q=>i_tup (ak (i_c (ak (h1 H _ S λu H1 S1 a1=>ak (h2 H1 _ (S.trans S1) λw H2 S2 a2=>aC {by simp[sizeLine],λp hp=>by
 have S3:=ag (o:=.tup [.str c,u,w]) hp
 exact q _ _ (S1.trans (S2.trans S3)) (f af (a1.mono (ao.tups (S2.trans S3))) (a2.mono (ao.tups S3)))})))))
theorem yf (h1:Mkx H0 U t1 λH v=>RAt H v r1) (h2:Mkx H0 U t2 λH v=>RAt H v r2) (h3:Mkx H0 U t3 λH v=>RAt H v r3):Mkx H0 U (i5 qW [] E0 (bj t1 (bj t2 (bj t3 dW)))) λH v=>RAt H v (.orr (.an r1 r2) (.an r3 (.orr r1 r2))):=λH Q S q =>
 bJ (ak (h1 H _ S λu H1 S1 a1=>ak (h2 H1 _ (S.trans S1) λw H2 S2 a2=>ak (h3 H2 _ (S.trans (S1.trans S2)) λy H3 S3 a3=>aC {_,_,_,_,_,_,rfl,a1.mono (ao.tups (S2.trans S3)),a2.mono (ao.tups S3),a3,λv H4 S4 a4=>q _ _ (S1.trans (S2.trans (S3.trans S4))) a4}))))
theorem AE {i:Nat} {v:V} (hσ:U[i]?=some (some v)) (h:∀{H},ao H0 H->R H v):Mkx H0 U (bV i) R:=λH Q S q=>aj hσ (q _ _ (ao.refl _) (h S))
end
theorem oA {x:Str × Rl} (hg:H g=some (.lst gvs)) (hp:Paired (GAt H) gvs gs) (hv:GAt H v x):Paired (GAt (upd H g (.lst (gvs++[v])))) (gvs++[v]) (gs++[x]):=by
 have kt:dy H (upd H g (.lst (gvs++[v]))):=λb xs e=>by rw[am λz=>by rw[z,hg]at e;cases e];exact e
 exact c_ (bE kt hp) (hv.mono kt)
section
theorem nH:FnScope ["way", "many", "names", "gates", "k", "after", "one", "other", "more"] ["way", "many", "names"] (aB (top 38)):=by fin2
theorem uE {f:Addr} {fd:FuncData} (Fu:Fun K "_law_known" "_law_known" (top 38) f fd) (T:Txt K mg TT) (f_law_held:Fn P w K mg base "_law_held" ["one", "other", "own"] 1 qW):FnOk P w K mg base CX0 2 f fd ["way", "many", "names"] pC:=by
 have S:=nH;refine Fu.ok S (by room) (λcdv A outer s H vs Q E hr h=>?_);obtain⟨way,m,l,ns,rfl,m1,m7,hl,ln,nd,k⟩:=h;refine'{?_,?bb,?_}
 case bb =>
  walk_at "b";exact(aM cH (pv 0) ae (aP _));exact aF 3 S.nd (aY ad);walk_at "f";exact(um (by rfl) T.n_range (aa ae (aa (ap aO (pv 1) ae) ad) aL));exact(bO 4 S.nd);walk_at "p";refine' aF 5 S.nd ?e
  case e =>
   walk_at "q";exact(aD aH (pv 2) (ap aO (pv 4) ae))
  refine' bB (cL QB QC QE a7 (pv 3) ?a)
  case a =>
   walk_at "q";exact(aD aH (pv 2) (pv 4));exact(aS f_law_held hr (aa (bq (aa aU (aa (aD aH (pv 2) (ap fV (pv 4) ae)) ad se_sub) aL)) (aa (pv 5) (aa (bq (aa aU (aa (aD aH (pv 2) (pv 4)) ad se_sub) aL)) ad se_tup) ai) se_tup))
  refine' aK ?e
  case e =>
   walk_at "q";exact(aD aH (pv 2) ae);exact(aD aH (pv 2) (ap aO (pv 1) ae));exact(pv 3)
  exact(aM cH (pv 0) ae (aP _));refine' aK ?e
  case e =>
   walk_at "q";exact(dq "k" [("names", 2),("many", 1)] (ce (by rfl) T.n_range (aa (pv 1) ad ai)) (λ_ _ _ _=>(bq (aa (aD (dM (K:=K) rfl) (pv 1) (pv 0)) (aa (bq (aa aU (aa (bq (aa aU (aa (aD (dM (K:=K) rfl) (pv 1) (ap aR (ap aO (pv 0) ae) (pv 2))) ad) aL)) ad se_tup) aL)) ad se_tup)))))
  refine' aF 6 S.nd ?e
  case e =>
   walk_at "q";exact(aD aH (pv 2) ae);exact(aD aH (pv 2) ae);exact(aD aH (pv 2) ae)
  refine' aF 7 S.nd ?e
  case e =>
   walk_at "q";exact(aD aH (pv 2) ae);exact(aD aH (pv 2) ae);exact(aD aH (pv 2) ae)
  exact aF 8 S.nd (aY ad);walk_at "f";exact(ce (by rfl) T.n_range (aa (aE (mY rfl) (by rfl) T.n_min PyProof.Rows.boot_min (aa (ap fV (pv 1) ae) (aa ae ad aL))) ad se_call));exact(bO 4 S.nd);walk_at "p";refine' bB (cL QB QC QE a7 (pv 8) ?a)
  case a =>
   walk_at "q";exact(aD aH (pv 2) (ap aO ae (pv 4)));exact(aD aH (pv 2) (ap aO ae (pv 4)));exact(aD aH (pv 2) (ap aO ae (pv 4)))
  refine' aK ?e
  case e =>
   walk_at "q";exact(a8 cq (pv 2) bt (br ae));exact(ap cu (aY (aa (pv 6) (aa (pv 7) ad ai) ai)) (pv 8))
 x_go;have ic:∀{U:St} {c:Int} (H:Hp) (Q:VK),Q (.int c) H->tC (.int c) U H Q:=λ_ _ q=>i_c q;lk;refine eW (λ_=>?_) (λ_=>?_)
 ·kt_k;refine bp (cA (aC {by decide,λg hg=>az ?_}));ctx_has H g H1 S1 q1 aJ hg;kt_k;refine s_for (ak (i_c (ak (aV (aj rfl (i_c (cw (aC {1,(m:Int)+1,rfl,{⋯,⋯,⋯,⋯},?_}))))))));rw[show ((m:Int)+1-1).toNat=m from ⋯];let I16:IvF:=λi U H'=>(∃x4 x5 gvs,U=[some (.int way),some (.int m),some (.ref l),some (.ref g),x4,x5,none,none,none]/\H' g=some (.lst gvs)/\Paired (GAt H') gvs (((List.range i).map (·+1)).map λk=>(nth ns k,R5 ns k)))/\ao H H';refine cV (n:=m) I16 { {_,_,[],rfl,q1,.nil},S1} (λi U H' hi pv=>?_) (λU H' pv=>?_)
  ·obtain⟨⟨x4,x5,gvs,rfl,hg',hp'⟩,SS⟩:=pv;have hl':=SS _ _ hl;have gl:=aQ hp';rw[Qa,Qa,List.length_range]at gl;have iv:∀{U:St} (H:Hp) (Q:VK),U[4]?=some (some (.int (1+(i:Int))))->Q (.int (1+(i:Int))) H->bV 4 U H Q:=λ_ _ e q=>aj e q;refine az ?_;kt_k;refine bp (s_ (lW (gB (k:=i+2) rfl hl' ln ⋯ (λH Q q=>aV (aj rfl (i_c (cw q)))) ⋯)) H' _ (ao.refl _) λav H2 S2 a2=>az ?_);have hl2:=S2 _ _ hl';have hg2:=S2 _ _ hg';refine s_drop (i_bm (aj rfl {i_tyL hg2,ak (ql (gB (k:=i+1) rfl hl2 ln ⋯ (λH Q q=>aj rfl q) ⋯) (yf (lW (gB (k:=i) rfl hl2 ln ⋯ (λH Q q=>aV (aj rfl (i_c (cw q)))) ⋯)) (AE rfl λS=>a2.mono (ao.tups S)) (lW (gB (k:=i+1) rfl hl2 ln ⋯ (λH Q q=>aj rfl q) ⋯))) H2 _ (ao.refl _) λv H3 S3 ga=>aC (dr (S3 _ _ hg2) ⋯ ?_))}));refine{ {_,_,gvs++[v],rfl,af,?_},aN (SS.trans (S2.trans S3)) hg};rw[List.range_succ,Qt,Qt];exact oA (S3 _ _ hg2) (bE (ao.tups (S2.trans S3)) hp') ga
  obtain⟨⟨x4,x5,gvs,rfl,hg',hp'⟩,SS⟩:=pv;have hl':=SS _ _ hl;refine ck (i_tup (ak (cA (ak (gB (k:=0) rfl hl' ln ⋯ ic rfl H' _ (ao.refl _) λv H2 S2 e2=>ak (gB (k:=m+1) rfl (S2 _ _ hl') ln ⋯ (λH Q q=>aV (aj rfl (i_c (cw q)))) ⋯ H2 _ (ao.refl _) λv3 H3 S3 e3=>aC {by simp[sizeLine],λp1 hp1=>?_}))))));subst e2 e3;ctx_has H3 p1 H4 S4 q4 aJ hp1;refine ak (aj rfl (aC {by simp[sizeLine],λp2 hp2=>?_}));have S5:=ag (o:=.tup [.ref p1,.ref g]) hp2;have S25:=S2.trans (S3.trans (S4.trans S5));exact k p2 p1 g ([0,m+1].map (nth ns)) gvs _ _ (SS.trans S25) {af,S5 _ _ q4,S25 _ _ hg',bE (ao.tups S25) hp'} (Fc nd ln m1 m7)
 lk;refine eW (λ_=>?_) (λ_=>?_)
 ·refine ck (i_tup (ak (cA (aC {by decide,λp0 hp0=>ak (bR (s_rng1 (ak (aj rfl (aC {_,rfl,⋯,⋯,λD hD=>?_})))))}))));rw[Xh];generalize hE:upd H p0 _=H1 at *;obtain⟨S1,q1⟩:=aJ hp0 hE;clear hE;have hl1:=S1 _ _ hl;let I17:IvC:=λn H2 ys=>ao H1 H2/\H2 D=some (.lst ys)/\Paired (GAt H2) ys ((List.range n).map λk=>(nth ns k,R6 ns m k));refine fB (n:=m) I17 {ag hD,af,.nil} (λn H2 ys p=>p.2.1) (λn H2 ys hn p=>?_) (λH2 ys p=>?_)
  ·obtain⟨S2,h2,hp2⟩:=p;have gl:=aQ hp2;rw[Qa,List.length_range]at gl;have hmod:(n+1) % m<m:=Nat.mod_lt _ ⋯;refine az {⟨rfl,rfl,trivial⟩,i_yes (b9 ?_)};have hl2:=S2 _ _ hl1;refine ql (gB (k:=n) rfl hl2 ln ⋯ (λH Q q=>aj rfl q) ⋯) (s_ (lW (gB (k:=(n+1) % m) rfl hl2 ln ⋯ (λH Q q=>aV (aV (aj rfl (i_c (cw (aj rfl (dj (by show (0:Int)<(m:Int);omega) q))))))) (by rw[show (0:Int)+(n:Int)+1=((n+1:Nat):Int) from ⋯];exact(Int.natCast_emod _ _).symm)))) H2 _ (ao.refl _) λv H3 S3 ga=>?_;refine b8.mk (S3 _ _ h2) hn ⋯ {aN (S2.trans S3) hD,af,?_};rw[List.range_succ,Qt];exact oA (S3 _ _ h2) (bE (ao.tups S3) hp2) ga
  obtain⟨S2,h2,hp2⟩:=p;refine aC {by simp[sizeLine],λp3 hp3=>?_};have S3:=ag (o:=.tup [.ref p0,.ref D]) hp3;exact k p3 p0 D (([]:List Nat).map (nth ns)) _ _ _ (S1.trans (S2.trans S3)) {af,(S2.trans S3) _ _ q1,S3 _ _ h2,bE (ao.tups S3) hp2} (Fa nd ln m1 m7)
 have nmK:∀{U:St} {H1:Hp} (k:Nat),U[2]?=some (some (.ref l))->ao H H1->k<11->Mkx H1 U (tOp (rb K) (bV 2) (tC (.int (k:Int)))) λ_ v=>v=.str (nth ns k):=λk e S hk=>gB e (S _ _ hl) ln hk ic rfl;kt_k;kt_k;refine bp (ql (nmK 2 rfl (ao.refl _) (by decide)) (s_ (rD (r:=.orr (wN ns 0) (wN ns 3)) (lW (nmK 0 rfl (ao.refl _) (by decide))) (lW (nmK 3 rfl (ao.refl _) (by decide))) .orr)) H _ (ao.refl _) λv1 J1 U1 g1=>az ?_);kt_k;refine bp (ql (nmK 3 rfl U1 (by decide)) (s_ (rD (r:=.orr (wN ns 1) (wN ns 2)) (lW (nmK 1 rfl U1 (by decide))) (lW (nmK 2 rfl U1 (by decide))) .orr)) J1 _ (ao.refl _) λv2 J2 U2 g2=>az ?_);kt_k;refine bp (cA (aC {by simp[sizeLine],λb10 hb10=>az ?_}));have V2:=U1.trans U2;have mH:H b10=none:=ao.free V2 hb10;ctx_has J2 b10 J3 U3 u3 aJ hb10;have V3:=V2.trans U3
 obtain⟨j,ej,j3⟩:∃j:Nat,(if (3:Int)<(m:Int)-1 then (3:Int) else (m:Int)-1)=(j:Int)/\j<=3:=by
  by_cases h:(3:Int)<(m:Int)-1
  ·rw[QL h];exact{3,rfl,⋯}
  rw[QI h];exact{m-1,⋯,⋯}
 kt_k;refine s_for (s_rng1 (ak (dN (ak (aV (aj rfl (i_c (cw (ak (i_c (aC {_,_,rfl,aC {j,by rw[<-ej],⋯,⋯,?_} })))))))))));rw[Xh];have kt3:dy J3 J3:=λb xs e=>e;let I18:IvF:=λi U H'=>(∃x4 gvs,U=[some (.int way),some (.int m),some (.ref l),none,x4,none,some v1,some v2,some (.ref b10)]/\H' b10=some (.lst gvs)/\Paired (GAt H') gvs (((List.range i).map (4+·)).map λk=>(nth ns k,R7 ns k)))/\ao H H'/\dy J3 H';refine cV (n:=j) I18 { {_,[],rfl,u3,.nil},V3,kt3} (λi U H' hi pv=>?_) (λU H' pv=>?_)
 ·obtain⟨⟨x4,gvs,rfl,hg',hp'⟩,SS,kt0⟩:=pv;have hl':=SS _ _ hl;have gl:=aQ hp';rw[Qa,Qa,List.length_range]at gl;refine az ?_;have nmI:∀{U:St} (c:Nat),U[2]?=some (some (.ref l))->U[4]?=some (some (.int (0+(i:Int))))->c+i<11->Mkx H' U (tOp (rb K) (bV 2) (tOp (rI0 λa b=>.int (a+b)) (tC (.int (c:Int))) (bV 4))) λ_ v=>v=.str (nth ns (c+i)):=λc e1 e2 hk=>gB e1 hl' ln hk (λH Q q=>aV (i_c (aj e2 (cw q)))) ⋯
  have e7:R7 ns (4+i)=.an (wN ns (2+i)) (wN ns (3+i)):=by
   unfold R7;rw[QI ⋯,QI ⋯,show 4+i-2=2+i from by omega,show 4+i-1=3+i from ⋯]
  refine s_drop (i_bm (aj rfl {i_tyL hg',ak (ql (nmI 4 rfl rfl ⋯) (rD (r:=.an (wN ns (2+i)) (wN ns (3+i))) (lW (nmI 2 rfl rfl ⋯)) (lW (nmI 3 rfl rfl ⋯)) .an) H' _ (ao.refl _) λv H3 S3 ga=>aC (dr (S3 _ _ hg') ⋯ ?_))}));have hg3:=S3 _ _ hg';refine{ {_,gvs++[v],rfl,af,?_},aN (SS.trans S3) mH,λb xs e=>by rw[am λz=>by have:=S3 _ _ (kt0 b xs e);rw[z,hg3]at this;cases this];exact S3 _ _ (kt0 b xs e)};rw[List.range_succ,Qt,Qt];refine oA hg3 (bE (ao.tups S3) hp') ?_;show GAt _ _ (nth ns (4+i),R7 ns (4+i));rw[e7];exact ga
 obtain⟨⟨x4,gvs,rfl,hg',hp'⟩,SS,kt0⟩:=pv;have hl':=SS _ _ hl;have gl:=aQ hp';rw[Qa,Qa,List.length_range]at gl
 try dsimp only
 refine ck (i_tup (ak (i_sl (aj rfl (i_nopart (i_part (i_c {_,rfl,jc (SqL.of hl') λp1 hp1=>?_})))))))
 have ec:fJ (ns.map V.str) none (some 2)=([0,1].map (nth ns)).map V.str:=by
  have l2:2<=(ns.map V.str).length:=by rw[Qa,ln];decide
  unfold fJ;rw[show (some (2:Int))=some ((2:Nat):Int) from rfl,HT.nO,HT.jZ,Nat.min_eq_left l2,List.drop_zero,Nat.sub_zero];clear l2
  cases ns with
  | nil=>cases ln
  | cons a r =>
  cases r with
  | nil=>cases ln
  | cons b r=>rfl
 rw[ec];ctx_has H' p1 H2 S2 q2 aJ hp1;refine ak (aV (cA (ak (aj rfl (ak (aj rfl (aC {by simp[sizeLine],λp2 hp2=>?_})))))));ctx_has H2 p2 H3 S3 q3 aJ hp2;refine aj rfl (gG q3 ((S2.trans S3) _ _ hg') (by simp;omega) λp3 hp3=>aC {by simp[sizeLine],λp4 hp4=>?_});generalize hE:upd H3 p3 _=H4 at *;obtain⟨S4,q4⟩:=aJ hp3 hE;clear hE;have S5:=ag (o:=.tup [.ref p1,.ref p3]) hp4;have S25:=S2.trans (S3.trans (S4.trans S5));have kt5:dy J2 (upd H4 p4 (.tup [.ref p1,.ref p3])):=λb xs e=>ao.tups S25 b xs (kt0 b xs (U3 _ _ e));refine k p4 p1 p3 ([0,1].map (nth ns)) _ _ _ (SS.trans S25) {af,(S3.trans (S4.trans S5)) _ _ q2,S5 _ _ q4,?_} (E_ nd ln j3);exact .cons ((g1.mono (ao.tups U2)).mono kt5) (.cons (g2.mono kt5) (bE (ao.tups S25) hp'))
end
theorem w4 {xs:List V} {a:Nat} (h:a<=xs.length):fJ xs (some (a:Int)) none=xs.drop a:=by
 unfold fJ;rw[HT.nO,HT.jZ,Nat.min_eq_left h,Qw (by rw[Q9];omega)]
theorem wY {xs:List V} {a:Nat} (h:a<=xs.length):fJ xs none (some (a:Int))=xs.take a:=by
 unfold fJ;rw[HT.nO,HT.jZ,Nat.min_eq_left h];simp
def vA:Sp:=λvs H Q _=>∃(d:Addr) (ds:List Int) (spot:Int),vs=[.ref d,.int spot]/\H d=some (.lst (ds.map V.int))/\DOk ds/\0<=spot/\spot<=100 /\
 ∀a li lg ins gvs gs H',ao H H'->NAt H' a li lg ins gvs gs->NetOk ins gs->Q (.ref a) H'
theorem sS (h:∀n,n<vs.length->∃m:Nat,1<=m/\m<=B/\vs[n]?=some (.int (m:Int))) {i:Int} (h0:0<=i) (h1:i<vs.length):∃m:Nat,1<=m/\m<=B/\atI vs i=some (.int (m:Int)):=by
 obtain⟨n,rfl⟩:=Int.eq_ofNat_of_zero_le h0;obtain⟨m,a,b,e⟩:=h n (Int.ofNat_lt.mp h1);exact{m,a,b,bQ e}
theorem yZ {ms:List Nat} (h:∀m∈ms,1<=m/\m<=B) (n:Nat) (hn:n<(ms.map λm:Nat=>V.int (m:Int)).length):∃m:Nat,1<=m/\m<=B/\(ms.map λm:Nat=>V.int (m:Int))[n]?=some (.int (m:Int)):=by
 rw[Qa]at hn;obtain⟨a,b⟩:=h _ (Xo hn);exact{ms[n],a,b,by rw[Qi,Qc hn];rfl}
theorem Bq {i:Int} (h0:0<=i) (h1:i<9):∃m:Nat,1<=m/\m<=7/\atI [V.int 1,V.int 2,V.int 2,V.int 3,V.int 3,V.int 4,V.int 5,V.int 6,V.int 7] i=some (.int (m:Int)) :=
 sS (yZ (ms:=[1,2,2,3,3,4,5,6,7]) (by decide)) h0 h1
theorem Br {i:Int} (h0:0<=i) (h1:i<5):∃m:Nat,1<=m/\m<=6/\atI [V.int 2,V.int 3,V.int 3,V.int 3,V.int 6] i=some (.int (m:Int)) :=
 sS (yZ (ms:=[2,3,3,3,6]) (by decide)) h0 h1
theorem b_ (hp:H2 p=none) (e:upd H2 p o=H3):ao H2 H3/\H3 p=some o:=by subst e;exact{ag hp,af}
section
theorem qZ:FnScope ["d", "spot", "names", "way", "many", "inputs", "deep", "pos", "some", "gates", "name", "rule"] ["d", "spot"] (aB (top 40)):=by fin2
theorem xX {f:Addr} {fd:FuncData} (Fu:Fun K "_law_net" "_law_net" (top 40) f fd) (T:Txt K mg TT) (f_law_names:Fn P w K mg base "_law_names" ["d", "spot"] 1 pB) (f_law_known:Fn P w K mg base "_law_known" ["way", "many", "names"] 2 pC)
  (f_law_rule:Fn P w K mg base "_law_rule" ["d", "pos", "names", "deep"] 11 (jt 10)) (f_law_deeper:Fn P w K mg base "_law_deeper" ["d", "pos", "names", "rule"] 1 jP):FnOk P w K mg base CX0 12 f fd ["d", "spot"] vA:=by
 have S:=qZ;refine Fu.ok S (by room) (λcdv A outer s H vs Q E hr h=>?_);obtain⟨d,ds,spot,rfl,hd,dok,sp0,sp1,k⟩:=h;refine'{?_,?bb,?_}
 case bb =>
  walk_at "b";exact aF 2 S.nd (aS f_law_names hr (aa (pv 0) (aa (pv 1) ad ai) ai));exact aF 3 S.nd (ap aR (aD aH (pv 0) (ap aO (pv 1) ae)) ae);exact aF 4 S.nd (aD aH (aY (aa ae (aa ae (aa ae (aa ae (aa ae (aa ae (aa ae (aa ae (aa ae ad aL) aL) aL) aL) aL) aL) aL) aL) aL)) (ap aR (aD aH (pv 0) (ap aO (pv 1) ae)) ae));exact(aM vY (pv 3) ae (aP _));exact(aK (aS f_law_known hr (aa (pv 3) (aa (pv 4) (aa (pv 2) ad ai) ai) ai)));exact(aM cH (pv 3) ae (aP _));exact aF 4 S.nd (aE (mY rfl) (by rfl) T.n_min PyProof.Rows.boot_min (aa (pv 4) (aa ae ad aL) ai));exact aF 5 S.nd (ap aR (aD aH (pv 0) (ap aO (pv 1) ae)) ae);exact aF 6 S.nd (aD aH (aY (aa ae (aa ae (aa ae (aa ae (aa ae ad aL) aL) aL) aL) aL)) (pv 3));exact aF 7 S.nd (aY (aa (ap aO (pv 1) ae) ad));exact aF 8 S.nd (a8 cq (pv 2) bt (br (ap aO (pv 5) (pv 4))));exact aF 9 S.nd (aY ad);walk_at "f";exact(bx (a8 cq (pv 8) (br (pv 5)) bt));exact(bO 10 S.nd);walk_at "p";exact aF 11 S.nd (aS f_law_rule hr (aa (pv 0) (aa (pv 7) (aa (pv 8) (aa (pv 6) ad ai) ai) ai) ai));exact(PW.pt (nZ (aM cH (pv 3) ae (aP _)) (jw (aM cH (aE aI (by rfl) T.n_len QJ (aa (pv 9) ad ai)) (ap aR (ap cI (aD aH (pv 0) (ap aO (pv 1) ae)) ae) (pv 4)) (aP _)))));exact aF 11 S.nd (aS f_law_rule hr (aa (pv 0) (aa (pv 7) (aa (pv 8) (aa ae ad aL) ai) ai) ai));exact(PW.pt (ij (aM cH (pv 3) ae (aP _)) (fP (PW.pt (nZ (aM cH (pv 3) ae (aP _)) (jw (aM cH (aE aI (by rfl) T.n_len QJ (aa (pv 9) ad ai)) (ap aR (ap cI (aD aH (pv 0) (ap aO (pv 1) ae)) ae) (pv 4)) (aP _))))))));exact aF 11 S.nd (aS f_law_deeper hr (aa (pv 0) (aa (pv 7) (aa (pv 8) (aa (pv 11) ad ai) ai) ai) ai));refine' bB (cL QB QC QE a7 (pv 9) ?a)
  case a =>
   walk_at "q";exact(pv 10);exact(pv 11)
  exact(aK (bq (aa (a8 cq (pv 2) bt (br (pv 5))) (aa (pv 9) ad ai))))
 x_go;lk;refine{d,ds,spot,rfl,hd,dok,⋯,⋯,λl ns H1 S1 nl ln nd hl=>?_};have hd1:=S1 _ _ hd;lk;obtain⟨w0,_,_,ew⟩:=dh dok (i:=spot+2) ⋯ ⋯;refine bd (SqL.of hd1) ew ?_;lk;refine{by simp[sizeLine],λp0 hp0=>?_};ctx_has H1 p0 H2 S2 q2 b_ hp0;have hd2:=S2 _ _ hd1;lk;obtain⟨y0,_,_,ey⟩:=dh dok (i:=spot+3) ⋯ ⋯;refine bd (SqL.of hd2) ey ?_;lk;obtain⟨m,m1,m7,em⟩:=Bq (i:=y0 % 9) ⋯ ⋯;refine bd (SqL.of q2) em ?_;have hl2:=S2 _ _ hl;have wb0:0<=w0 % 8:=by omega
 have wb1:w0 % 8<8:=by omega
 generalize w0 % 8=way at *;lk;refine eW (λ_=>?_) (λhw4=>?_)
 ·lk;exact{way,m,l,ns,rfl,m1,m7,hl2,ln,nd,λa li lg ins gvs gs H' S' NA ok=>k a li lg ins gvs gs H' (S1.trans (S2.trans S')) NA ok}
 have hw5:way<=4:=by simpa using hw4
 kt_k;let I19:IvJ:=λU H'=>∃m:Nat,1<=m/\m<=7/\U=[some (.ref d),some (.int spot),some (.ref l),some (.int way),some (.int (m:Int)),none,none,none,none,none,none,none]/\H'=H2;with_reducible refine c9 I19 (λR hR=>?_) (λσ6 H6 j6=>?_)
 ·lk;refine eW (λ_=>?_) (λ_=>hR _ _ ⟨m,m1,m7,rfl,rfl⟩);lk;refine{_,_,rfl,?_};by_cases h3:(3:Int)<(m:Int)
  ·rw[QL h3];exact az (hR _ _ {3,⋯,⋯,rfl,rfl})
  rw[QI h3];exact az (hR _ _ ⟨m,m1,m7,rfl,rfl⟩)
 clear em m1 m7 m;obtain⟨m,m1,m7,rfl,e6⟩:=j6;have e6':=e6.symm;subst e6';clear e6;lk;obtain⟨z0,zb0,_,ez⟩:=dh dok (i:=spot+4) ⋯ ⋯;refine bd (SqL.of hd2) ez ?_;lk;obtain⟨I,eI,I4⟩:∃I:Nat,z0 % 5=(I:Int)/\I<=4:={(z0 % 5).toNat,⋯,⋯};rw[eI];refine{by simp[sizeLine],λp1 hp1=>?_};ctx_has H2 p1 H3 S3 q3 b_ hp1;lk;obtain⟨dp,dp1,dp6,edp⟩:=Br (i:=way) ⋯ ⋯;refine bd (SqL.of q3) edp ?_;lk;refine{by show 1<=sizeLine;decide,λqa hqa=>?_};ctx_has H3 qa H4 S4 q4 b_ hqa;have S24:=S3.trans S4;have hl4:=S24 _ _ hl2;have hd4:=S24 _ _ hd2;lk;have lns:(ns.map V.str).length=11:=by rw[Qa];exact ln
 rw[show (I:Int)+(m:Int)=((I+m:Nat):Int) from ⋯];refine jc (SqL.of hl4) λso hso=>?_;rw[wY (by rw[lns];omega),<-List.map_take];ctx_has H4 so H5 S5 q5 b_ hso;have lts:(ns.take (I+m)).length=I+m:=by rw[Qv];omega
 have nds:(ns.take (I+m)).Nodup:=nd.sublist (List.take_sublist _ _);generalize eTS:ns.take (I+m)=ts at *;have tne:ts≠[]:=λz=>by rw[z]at lts;simp at lts;omega
 lk;refine{by decide,λg hg=>?_};ctx_has H5 g H6 S6 q6 b_ hg;lk;have lts':(ts.map V.str).length=I+m:=by rw[Qa];exact lts
 refine jc (SqL.of (S6 _ _ q5)) λq hq=>?_;rw[w4 (by rw[lts'];omega),<-List.map_drop];ctx_has H6 q H7 S7 q7 b_ hq;have S47:=S5.trans (S6.trans S7);have SS7:ao H H7:=S1.trans (S2.trans (S24.trans S47));have gH:H g=none:=ao.free (S1.trans (S2.trans (S24.trans S5))) hg;have qaH:H qa=none:=ao.free (S1.trans (S2.trans S3)) hqa;have nqg:g≠qa:=λz=>by rw[z]at hg;rw[(S5 _ _ q4)]at hg;cases hg
 refine{q,rfl,{_,SqL.of q7},?_};let I20:IvF:=λj U H'=>∃x10 x11 gvs gs,U=[some (.ref d),some (.int spot),some (.ref l),some (.int way),some (.int (m:Int)),some (.int (I:Int)),some (.int (dp:Int)),some (.ref qa),some (.ref so),some (.ref g),x10,x11]/\gs.map (·.1)=(ts.drop I).take j/\gs.length=j/\H' g=some (.lst gvs)/\Paired (GAt H') gvs gs/\(∀g∈gs,g.2.ok ts/\g.2.dep<=10)/\H' l=some (.lst (ns.map V.str))/\H' so=some (.lst (ts.map V.str))/\H' q=some (.lst ((ts.drop I).map V.str))/\H' d=some (.lst (ds.map V.int))/\(∃n:Int,H' qa=some (.lst [.int n]))/\ao H H'
 refine dO (K:=K) (xs:=(ts.drop I).map V.str) I20
  {none,none,[],[],rfl,rfl,rfl,S7 _ _ q6,.nil,(λg h=>nomatch h),S47 _ _ hl4,(S6.trans S7) _ _ q5,q7,S47 _ _ hd4,{_,S47 _ _ q4},SS7} (λj U H' _ pv=>?_) (λj x U H' hx pv=>?_) (λU H' pv=>?_)
 ·obtain⟨_,_,_,_,_,_,_,_,_,_,_,_,h,_⟩:=pv;exact SqL.of h
 ·obtain⟨x10,x11,gvs,gs,rfl,hgs,hj,hg',gts,gok,hl',hso',hq',hd',hqa',SS⟩:=pv;rw[Qi]at hx
  cases hnm:(ts.drop I)[j]? with
  | none=>rw[hnm]at hx;cases hx
  | some nm =>
  rw[hnm]at hx;cases hx;have hjl:j<(ts.drop I).length:=(Qe.mp hnm).1;rw[Q9,lts]at hjl;have lgv:=aQ gts;have len1:ts.length<=1000:=by omega
  refine az ?_;lk;refine{d,qa,so,ds,ts,dp,rfl,hd',dok,hqa',hso',tne,len1,dp1,⋯,λv r G1 ra rok rd kp=>?_};refine az ?_;let I21:IvJ:=λU G2=>∃v r,U=[some (.ref d),some (.int spot),some (.ref l),some (.int way),some (.int (m:Int)),some (.int (I:Int)),some (.int (dp:Int)),some (.ref qa),some (.ref so),some (.ref g),some (.str nm),some v]/\RAt G2 v r/\r.ok ts/\r.dep<=6/\KpP qa H' G2;with_reducible refine c9 I21 (λR hR=>?_) (λσ6 H6' j6=>?_)
  ·have out:=hR _ _ {v,r,rfl,ra,rok,⋯,kp};lk;refine eW (λ_=>?_) (λ_=>?_)
   ·lk;refine{_,_,rfl,.inl (SqL.of (kp.old _ _ hg' nqg)),?_};lk;refine bd (SqL.of (kp.ints hqa' dok hd')) ez ?_;lk;refine dj (by show (0:Int)<(m:Int);omega) ?_;lk;refine eW (λ_=>?_) (λ_=>out);lk;refine{d,qa,so,ds,ts,6,rfl,kp.ints hqa' dok hd',dok,kp.at',kp.strs hqa' hso',tne,len1,⋯,⋯,λv2 r2 G2 ra2 rok2 rd2 kp2=>?_};exact az (hR _ _ {v2,r2,rfl,ra2,rok2,rd2,kp.trans kp2})
   first|exact out|exact di out
  clear ra rok rd kp v r;let I22:IvJ:=λU G2=>∃v r,U=[some (.ref d),some (.int spot),some (.ref l),some (.int way),some (.int (m:Int)),some (.int (I:Int)),some (.int (dp:Int)),some (.ref qa),some (.ref so),some (.ref g),some (.str nm),some v]/\RAt G2 v r/\r.ok ts/\r.dep<=10/\KpP qa H' G2;with_reducible refine c9 I22 (λR hR=>?_) (λσ7 H7' j7=>?_)
  ·obtain⟨v,r,rfl,ra,rok,rd,kp⟩:=j6;have out:=hR _ _ {v,r,rfl,ra,rok,⋯,kp}
   have deeper:∀D:Ends,(∀U H,R U H->D.nx U H)->ua (i5 jP [] E0 (bj (bV 0) (bj (bV 7) (bj (bV 8) (bj (bV 11) dW))))) (eE 11) D [some (.ref d),some (.int spot),some (.ref l),some (.int way),some (.int (m:Int)),some (.int (I:Int)),some (.int (dp:Int)),some (.ref qa),some (.ref so),some (.ref g),some (.str nm),some v] H6':=λD hD=>by
    lk;refine{d,qa,so,ds,ts,v,r,rfl,kp.ints hqa' dok hd',dok,kp.at',kp.strs hqa' hso',tne,len1,ra,rok,rd,λv2 r2 G2 ra2 rok2 rd2 kp2=>?_};exact az (hD _ _ (hR _ _ {v2,r2,rfl,ra2,rok2,rd2,kp.trans kp2}))
   lk;refine eW (λ_=>b9 (deeper _ λ_ _ h=>h)) (λ_=>?_);lk;refine eW (λ_=>?_) (λ_=>?_)
   ·lk;refine{_,_,rfl,.inl (SqL.of (kp.old _ _ hg' nqg)),?_};lk;refine bd (SqL.of (kp.ints hqa' dok hd')) ez ?_;lk;refine dj (by show (0:Int)<(m:Int);omega) ?_;lk;refine eW (λ_=>?_) (λ_=>out);exact deeper _ λ_ _ h=>h
   first|exact out|exact di out
  obtain⟨v,r,rfl,ra,rok,rd,kp⟩:=j7;have hg7:=kp.old _ _ hg' nqg;lk;refine{by simp[sizeLine],λt ht=>?_};ctx_has H7' t H8 S8 q8 b_ ht;have hg8:=S8 _ _ hg7;lk;refine dr hg8 ⋯ ?_
  have kt:dy H8 (upd H8 g (.lst (gvs++[.ref t]))):=λb xs eb=>by
   have nb:b≠g:=λz=>by rw[z,hg8]at eb;cases eb
   rw[am nb];exact eb
  have kp8:KpP qa H' H8:=kp.trans (KpP.of kp.at' S8);have ngl:l≠g:=aG hl4 (ao.free S5 hg);have ngs:so≠g:=aG q5 hg;have ngq:q≠g:=λz=>by rw[z,q6]at hq;cases hq
  have ngd:d≠g:=aG hd4 (ao.free S5 hg);refine{_,_,gvs++[.ref t],gs++[(nm,r)],rfl,?_,by simp[hj],af,c_ (bE kt (bE (kp8.tups hqa') gts)) {t,v,rfl,kt _ _ q8,(ra.mono (ao.tups S8)).mono kt},λx hx=>?_,by rw[am ngl];exact kp8.strs hqa' hl',by rw[am ngs];exact kp8.strs hqa' hso',by rw[am ngq];exact kp8.strs hqa' hq',by rw[am ngd];exact kp8.ints hqa' dok hd',?_,?_}
  ·rw[Qt,hgs,QV,hnm];rfl
  ·rcases Qp.mp hx with h|h
   ·exact gok x h
   have:x=(nm,r):=by simpa using h
   rw[this];exact⟨rok,rd⟩
  ·obtain⟨n,hn⟩:=kp8.at';exact{n,by rw[am (XH nqg)];exact hn}
  intro b o e;have nb:b≠g:=λz=>by rw[z,gH]at e;cases e
  have nq:b≠qa:=λz=>by rw[z,qaH]at e;cases e
  rw[am nb];exact kp8.old _ _ (SS _ _ e) nq
 obtain⟨x10,x11,gvs,gs,rfl,hgs,hj,hg',gts,gok,hl',hso',hq',hd',hqa',SS⟩:=pv;lk;refine jc (SqL.of hl') λp8 hp8=>?_;rw[wY (by rw[lns];omega),<-List.map_take];ctx_has H' p8 H8 S8 q8 b_ hp8;lk;refine{by simp[sizeLine],λp9 hp9=>?_};ctx_has H8 p9 H9 S9 q9 b_ hp9;have S89:=S8.trans S9;rw[Qa,Q9,lts]at hj
 have hw:aq (ns.take I) gs=ts:=by
  unfold aq;rw[hgs,show (ts.drop I).take ((ts.drop I).map V.str).length=ts.drop I from by rw[Qa];exact List.take_length];have:ns.take I=ts.take I:=by rw[<-eTS,List.take_take,Nat.min_eq_left ⋯]
  rw[this,QZ]
 refine k p9 p8 g (ns.take I) gvs gs H9 (SS.trans S89) {q9,S9 _ _ q8,S89 _ _ hg',bE (ao.tups S89) gts} {by rw[hw];exact nds,by rw[Qv];omega,⋯,⋯,λx hx=>by rw[hw];exact gok x hx}
end
def jL:Sp:=λvs H Q _=>∃(x:Int) (a li lg:Addr) (ins:List Str) (gvs:List V) (gs:F5),vs=[.int x,.ref a]/\NAt H a li lg ins gvs gs/\NetOk ins gs/\∀z H',StOk (aq ins gs).length z->ao H H'->Q (.str z) H'
theorem Ea (y:Int):∃c,atI ("01" : Str).cps.toList (Builtin.bitAnd y 1)=some c/\(c=48\/c=49):=by
 rw[PyProof.Rows.bitAnd_m1];have:y % 2=0\/y % 2=1:=by omega
 rcases this with e|e
 ·rw[e];exact{48,rfl,.inl rfl}
 rw[e];exact{49,rfl,.inr rfl}
theorem rS (h:∀z∈zs,∃c∈[48,49],z={#[c]}):StOk zs.length (Txt.join Str.empty zs):=by
 obtain⟨e1,e2⟩:=uQ h;exact{e1,λc hc=>by simpa using e2 c hc}
section
theorem jl:FnScope ["x", "net"] ["x", "net"] (aB (top 41)):=by fin2
theorem ux {f:Addr} {fd:FuncData} (Fu:Fun K "_law_standing" "_law_standing" (top 41) f fd) (T:Txt K mg TT):FnOk P w K mg base CX0 1 f fd ["x", "net"] jL:=by
 have S:=jl;refine Fu.ok S (by room) (λcdv A outer s H vs Q E hr h=>?_);obtain⟨x,a,li,lg,ins,gvs,gs,rfl,NA,ok,k⟩:=h;obtain⟨ha,hi,hg,gts⟩:=id NA;have lg':=aQ gts;have i4:=ok.i4;have g7:=ok.g7;have big:1000<sizeLine:=by decide
 refine'{?_,?bb,?_}
 case bb =>
  refine' a9 ?_;rotate_left 1;walk_at "p";exact(aK (cL PySem.F.plainAttrs_str PySem.F.slot_str_join PySem.F.type_str_join tf aU (aa (dq "k" [("x", 0)] (ce (by rfl) T.n_range (aa (ap aO (aE aI (by rfl) T.n_len QJ (aa (aD bg (pv 1) ae) ad)) (aE aI (by rfl) T.n_len QJ (aa (aD bg (pv 1) ae) ad))) ad)) (λ_ _ _ _=>(aD eV aU (ap An (ap Am (pv 1) (pv 0)) ae)))) ad)))
 x_go;lk;refine{rfl,?_};lk;refine bR ?_;lk
 have en:((ins.map V.str).length:Int)+(gvs.length:Int)=(((aq ins gs).length:Nat):Int):=by
  unfold aq;rw[Qk,Qa,Qa,lg'];rfl
 have wl:(aq ins gs).length<1000:=by
  unfold aq;rw[Qk,Qa];omega
 rw[en];refine{⋯,⋯,λL hL=>?_};rw[Xh];let I23:IvC:=λn H2 ys=>ao H H2/\H2 L=some (.lst ys)/\∃zs:List Str,ys=zs.map V.str/\zs.length=n/\∀z∈zs,∃c∈[48,49],z={#[c]};refine fB I23 {ag hL,af,[],rfl,rfl,λz h=>nomatch h} (λn H2 ys p=>p.2.1) (λn H2 ys hn p=>?_) (λH2 ys p=>?_)
 ·obtain⟨S2,h2,zs,rfl,hz,hc⟩:=p;refine az {⟨rfl,trivial⟩,i_yes (b9 ?_)};show tOp _ _ _ [some (.int (0+n)),some (.int x)] _ _;lk;refine dj (by show (0:Int)<=0+(n:Int);omega) ?_;lk;obtain⟨c,ec,hcc⟩:=Ea (x / 2 ^ (0+(n:Int)).toNat);refine gF (by decide +kernel) ec ?_;refine b8.mk h2 hn (by rw[Qa];omega) {aN S2 hL,af,zs++[{#[c]}],by simp,by simp[hz],λz hz'=>?_};rcases Qp.mp hz' with h|h
  ·exact hc z h
  rw[Qr]at h;exact{c,by simpa using hcc,h}
 obtain⟨S2,h2,zs,rfl,hz,hc⟩:=p;obtain⟨_,_,e3⟩:=fz zs hc;have e0:("" : Str)=Str.empty:=by decide +kernel
 have e00:("" : Str).length=0:=by decide +kernel
 refine aC {"", L,zs,rfl,rfl,SqL.of h2,by rw[e3,e00];omega,?_};rw[e0];exact k _ H2 (by rw[<-hz];exact rS hc) S2
theorem nJ:FnScope ["rule", "signs", "one", "other"] ["rule", "signs"] (aB (top 42)):=by fin2
theorem mF {f:Addr} {fd:FuncData} (Fu:Fun K "_law_holds" "_law_holds" (top 42) f fd) (T:Txt K mg TT) (hm:mg "_law_holds" = some (.ref f)) (hk:PySem.W.keepIn K (.ref f)=true) (hb:gJ K fd ["rule", "signs"] []):∀d,FnOk P w K mg base CX0 d f fd ["rule", "signs"] (gi d)
 | 0=>gU λvs H Q E ⟨v,a,kvs,r,ns,g,_,_,h,_⟩=>by have:=tJ r;omega
 | d+1=>by
  have S:=nJ;have f_law_holds:Fn P w K mg base "_law_holds" ["rule", "signs"] d (gi d):={f,fd,mF Fu T hm hk hb d,hm,hk,hb};refine Fu.ok S (λvs H Q E h=>?_) (λcdv A outer s H vs Q E hr h=>?_)
  ·obtain⟨v,a,kvs,r,ns,g,rfl,_⟩:=h;rfl
  obtain⟨v,a,kvs,r,ns,g,rfl,ra,hd,rok,ha,hf,q⟩:=h;have hu:=du hr;refine'{?_,?bb,?_}
  case bb =>
   walk_at "b";exact(aM cH (aD bg (pv 0) ae) aU (aP _));exact(aK (dY cH (bG hu (pv 1) (aD bg (pv 0) ae)) aU (aP _)));exact(aM cH (aD bg (pv 0) ae) aU (aP _));exact(aK (rf (aS f_law_holds hr (aa (aD bg (pv 0) ae) (aa (pv 1) ad ai)))));exact aF 2 S.nd (aS f_law_holds hr (aa (aD bg (pv 0) ae) (aa (pv 1) ad ai)));exact aF 3 S.nd (aS f_law_holds hr (aa (aD bg (pv 0) ae) (aa (pv 1) ad ai)));exact(aM cH (aD bg (pv 0) ae) aU (aP _));exact(aK (fU (pv 2) (fS (pv 3))));exact(aK (y_ (pv 2) (fS (pv 3))))
  x_go
  cases ra with
  | @w b n hb =>
   lk;refine ifT (by decide +kernel) ?_;lk;have hv:bh kvs (Sum.inr n:Key)=some (sg (g n)):=hf n rok;refine{a,sg (g n),rfl,by rw[<-hv];exact cK.k (k:=Sum.inr n) ha,?_};lk;refine i_eq (by cases g n <;> rfl) ?_;rw[qY];exact q
  | @no b u r hb hr1 =>
   lk;refine ifF (by decide +kernel) ?_;lk;refine ifT (by decide +kernel) ?_;lk;exact{u,a,kvs,r,ns,g,rfl,hr1,by simp only[Rl.dep]at hd;omega,rok,ha,hf,⟨_,rfl,q⟩}
  | @an b u x r1 r2 hb hr1 hr2 =>
   lk;refine ifF (by decide +kernel) ?_;lk;refine ifF (by decide +kernel) ?_;lk;simp only[Rl.dep]at hd;refine{u,a,kvs,r1,ns,g,rfl,hr1,⋯,rok.1,ha,hf,?_};lk;refine{x,a,kvs,r2,ns,g,rfl,hr2,⋯,rok.2,ha,hf,?_};lk;refine ifT (by decide +kernel) ?_;have e:Rl.val g (Rl.an r1 r2)=(r1.val g&&r2.val g):=rfl;rw[e]at q;lk
   cases hv:r1.val g with
   | false=>rw[hv]at q;exact di q
   | true =>
   rw[hv]at q;refine b9 ?_;lk;exact q
  | @orr b u x r1 r2 hb hr1 hr2 =>
  lk;refine ifF (by decide +kernel) ?_;lk;refine ifF (by decide +kernel) ?_;lk;simp only[Rl.dep]at hd;refine{u,a,kvs,r1,ns,g,rfl,hr1,⋯,rok.1,ha,hf,?_};lk;refine{x,a,kvs,r2,ns,g,rfl,hr2,⋯,rok.2,ha,hf,?_};lk;refine ifF (by decide +kernel) ?_;have e:Rl.val g (Rl.orr r1 r2)=(r1.val g || r2.val g):=rfl;rw[e]at q;lk
  cases hv:r1.val g with
  | true=>rw[hv]at q;exact b9 q
  | false =>
  rw[hv]at q;refine di ?_;lk;exact q
end
theorem r_ (hσ:U[i]?=some (some (.ref a))) (NA:NAt H a li lg ins gvs gs) (ok:NetOk ins gs)
  (q:∀D H',H D=none->ao H H'->H' D=some (.lst ((gs.map (·.1)).map V.str))->Q (.ref D) H') :
  iZ (mN K (tOp (pS K) (bV i) (tC (V.int 1)))) (AV K 2 (wO (eE 0) (wO (eE 1) D5))) gL (bV 0) (ca [Str.ofString "name", Str.ofString "rule"] []) U H Q:=by
 have l:=aQ NA.gates;have g7:=ok.g7;have big:1000<sizeLine:=by decide
 refine bR (s_list (aV (aj hσ (i_c (i_ixT NA.ha rfl {lg,rfl,{_,SqL.of NA.hg},λD hD=>?_})))));refine cg (xs:=gvs) (λn H' ys=>ao H H'/\H' D=some (.lst ys)/\ys=((gs.map (·.1)).map V.str).take n) {ag hD,af,by simp} (λn H' ys p=>{p.2.1,SqL.of (p.1 _ _ NA.hg)}) (λn x H' ys e p=>?_) (λH' ys p=>?_)
 ·obtain⟨S,hd,rfl⟩:=p;obtain⟨g,hgi,b,rv,rfl,hb,hrv⟩:=dB NA.gates n x e;have hn:n<gvs.length:=(Qe.mp e).1;refine{b,_,rfl,SqT.of (S _ _ hb),rfl,?_};refine{_,_,rfl,az {_,_,rfl,az {rfl,{trivial,i_yes (b9 ?_)} } } };refine aj rfl (b8.mk hd hn (by rw[Qv];omega) {aN S hD,af,?_});rw[QV,Qi,Qi,hgi];rfl
 obtain⟨S,hd,rfl⟩:=p;exact q D H' hD S (by rw[hd,Qw (by simp[l])])
section
theorem nM:FnScope ["net", "standing", "names", "signs", "found", "k", "name", "rule", "at", "sign"] ["net", "standing"] (aB (top 43)):=by fin2
theorem rp {f:Addr} {fd:FuncData} (Fu:Fun K "_law_asked" "_law_asked" (top 43) f fd) (T:Txt K mg TT) (f_law_holds:Fn P w K mg base "_law_holds" ["rule", "signs"] 10 (gi 10)):FnOk P w K mg base CX0 11 f fd ["net", "standing"] eO:=by
 have S:=nM;refine Fu.ok S (by room) (λcdv A outer s H vs Q E hr h=>?_);obtain⟨a,li,lg,ins,gvs,gs,z,rfl,NA,ok,st,k⟩:=h;have hu:=du hr;refine'{?_,?bb,?_}
 case bb =>
  walk_at "b";exact aF 2 S.nd (ap cu (aD bg (pv 0) ae) (mE (tgs:=["name", "rule"]) (cap:=[]) rfl ⟨rfl,rfl,rfl,rfl,rfl,rfl⟩ (bx (aD bg (pv 0) ae)) (λ_ _ _ _=>(sV (K:=K) (n:=2) rfl rfl (bC (dH (i:=0) (show List.Nodup [("name" : Str),("rule" : Str)] by decide +kernel) rfl (by z_go)) (bC (dH (i:=1) (show List.Nodup [("name" : Str),("rule" : Str)] by decide +kernel) rfl (by z_go)) dX)))) (λ_ _ _ _=>ik) (λ_ _ _ _=>(pv 0))));exact aF 3 S.nd (sX rfl (by rfl) T.n_dict (by rfl) T.n_zip (aa (pv 2) (aa (pv 1) ad ai) ai));exact aF 4 S.nd (aY ad);walk_at "f";exact(sU (by rfl) T.n_enumerate (aa (aD bg (pv 0) ae) ad));exact(fR rfl (bC (bO 5 S.nd) (bC (fR rfl (bC (bO 6 S.nd) (bC (bO 7 S.nd) dX))) dX)));walk_at "p";exact(aM ku (aS f_law_holds hr (aa (pv 7) (aa (pv 3) ad ai) ai)) (dY cH (bG hu (pv 3) (pv 6)) aU (aP _)) (aP _));exact aF 8 S.nd (ap aO (aE aI (by rfl) T.n_len QJ (aa (aD bg (pv 0) ae) ad)) (pv 5));exact aF 9 S.nd (aD eV aU (gr ma (by rfl) T.n_int PyProof.Rows.boot_int (aa (aD eV (pv 1) (pv 8)) ad)));refine' bB (cL QB QC QE a7 (pv 4) ?a)
  case a =>
   walk_at "q";exact(pv 6);exact(ap bP (ap bP (a8 eR (pv 1) bt (br (pv 8))) (pv 9)) (a8 eR (pv 1) (br (ap aO (pv 8) ae)) bt))
  exact(aK (pv 4))
 x_go;have i4:=ok.i4;have g7:=ok.g7;have lgn:=aQ NA.gates;have wl:(aq ins gs).length=ins.length+gs.length:=by unfold aq;rw[Qk,Qa]
 have big:1000<sizeLine:=by decide
 obtain⟨ha,hi,hg,gts⟩:=id NA;lk;refine r_ rfl NA ok λD H1 hD S1 h1=>?_;show xF _ _ _ _;refine gG (S1 _ _ hi) h1 (mj ok) λl0 hl0=>?_;rw[mh];ctx_has H1 l0 H2 S2 q2 b_ hl0;lk;show bj _ _ _ _ _;lk;refine{l0,aq ins gs,z,rfl,SqL.of q2,by rw[st.len];omega,⋯,λd hd0=>?_};ctx_has H2 d H3 S3 q3 b_ hd0;have df:DFn (bH [] (cZ (aq ins gs) z)) (aq ins gs) (sgn (aq ins gs) z):=tI ok.nd st;generalize bH [] (cZ (aq ins gs) z)=kvs at *;lk;refine{by decide,λl hl=>?_};ctx_has H3 l H4 S4 q4 b_ hl;have S03:=S1.trans (S2.trans S3);have S04:=S03.trans S4;have hlH:H l=none:=ao.free S03 hl;have NA4:=NA.same S04;have hd4:=S4 _ _ q3;have dl:d≠l:=aG q3 hl;obtain⟨ha4,hi4,hg4,gts4⟩:=id NA4;lk;show bj _ _ _ _ _;lk;refine{lg,rfl,{_,SqL.of hg4},?_};let I24:IvF:=λi U H'=>(∃x5 x6 x7 x8 x9 vs',U=[some (.ref a),some (.str z),some (.ref l0),some (.ref d),some (.ref l),x5,x6,x7,x8,x9]/\H' l=some (.lst vs')/\vs'.length<=i/\Paired (oU H') vs' (((gs.zipIdx ins.length).take i).filterMap (cC (sgn (aq ins gs) z) z)))/\ao H H'/\H' d=some (.dK kvs)
 refine qz (xs:=gvs) I24
  { {_,_,_,_,_,[],rfl,q4,by simp,by simp;exact .nil},S04,hd4} (λi U H' _ pv=>SqL.of (pv.2.1 _ _ NA.hg)) (λi x U H' t hx pv ht=>?_) (λU H' pv=>?_)
 ·obtain⟨⟨x5,x6,x7,x8,x9,vs',rfl,hl',hlen,hp⟩,SS,hd'⟩:=pv;have hig:i<gvs.length:=(Qe.mp hx).1;obtain⟨g,hgi,b,rv,rfl,hb,hrv⟩:=dB NA.gates i x hx;have S5:=ag (o:=.tup [.int (i:Nat),.ref b]) ht;have hb5:=(SS.trans S5) _ _ hb;refine{t,_,rfl,SqT.of af,rfl,?_};refine{_,_,rfl,az {_,_,rfl,{b,_,rfl,SqT.of hb5,rfl,{_,_,rfl,az {_,_,rfl,az {rfl,{rfl,?_} } } } } } };have hl5:=S5 _ _ hl';have hd5:=S5 _ _ hd';have SS5:=SS.trans S5;have hp5:=cE (ao.tups S5) hp;generalize upd H' t (.tup [.int (i:Nat),.ref b])=H5 at *;have hr5:=hrv.mono (ao.tups SS5);have gm:g∈gs:=Qg hgi;obtain⟨rok,rdep⟩:=ok.rules g gm;have hpl:ins.length+i<(aq ins gs).length:=by omega
  have hzi:(gs.zipIdx ins.length)[i]?=some (g,ins.length+i):=by rw[List.getElem?_zipIdx,hgi];rfl
  have gw:g.1∈aq ins gs:=by
   unfold aq;exact QR _ (List.mem_map_of_mem gm)
  have hv1:bh kvs (Sum.inr g.1:Key)=some (sg (sgn (aq ins gs) z g.1)):=df g.1 gw
  have sgi:sgn (aq ins gs) z g.1=(z.cps.getD (ins.length+i) 0==49):=by
   have hw:(aq ins gs)[ins.length+i]?=some g.1:=by
    unfold aq;rw[QH ⋯,Qi,show ins.length+i-ins.length=i from by omega,hgi];rfl
   have e2:(aq ins gs)[ins.length+i]=g.1:=(Qe.mp hw).2
   have hi':(aq ins gs).idxOf g.1=ins.length+i:=by
    rw[<-e2];exact List.Nodup.idxOf_getElem ok.nd _ hpl
   unfold sgn;rw[hi']
  rw[sgi]at hv1;lk;refine{rv,d,kvs,g.2,_,_,rfl,hr5,rdep,rok,hd5,df,?_};generalize hv:g.2.val (sgn (aq ins gs) z)=bv;lk;refine{d,_,rfl,by rw[<-hv1];exact cK.k (k:=Sum.inr g.1) hd5,?_};have zl:z.length=(aq ins gs).length:=st.len;have e:=ju st hpl;unfold fI at e
  have so:cC (sgn (aq ins gs) z) z (g,ins.length+i)=if (bv==(z.cps.getD (ins.length+i) 0==49))=true then none else some (g.1,fH z (ins.length+i)):=by
   unfold cC;rw[hv]
  have fT:dS z (ins.length+i)=if (z.cps.getD (ins.length+i) 0==49)=true then ("0" : Str) else ("1" : Str):=rfl
  have tk:((gs.zipIdx ins.length).take (i+1)).filterMap (cC (sgn (aq ins gs) z) z)=((gs.zipIdx ins.length).take i).filterMap (cC (sgn (aq ins gs) z) z)++(cC (sgn (aq ins gs) z) z (g,ins.length+i)).toList:=by
   rw[QV,hzi,List.filterMap_append];cases h:cC (sgn (aq ins gs) z) z (g,ins.length+i) <;> simp[h]
  lk;refine i_eq (by cases (z.cps.getD (ins.length+i) 0==49) <;> rfl) ?_;rw[qY];generalize hbz:(z.cps.getD (ins.length+i) 0==49)=bz at *;lk
  cases hc:(bv==bz) with
  | true =>
   have:bv=bz:=by simpa using hc
   refine ifF (by rw[this];simp) ?_;rw[hc]at so;refine{ {_,_,_,_,_,vs',rfl,hl5,⋯,?_},SS5,hd5};rw[tk,so];simpa using hp5
  | false =>
  have hne:bv≠bz:=by simpa using hc
  refine ifT (by simp[hne]) ?_;rw[hc]at so;have NA5:=NA.same SS5;obtain⟨ha5,hi5,hg5,gts5⟩:=id NA5;lk;have ep:((ins.map V.str).length:Int)+((i:Nat):Int)=((ins.length+i:Nat):Int):=by rw[Qa];omega
  rw[ep];lk;refine gF ⋯ (oM st hpl) ?_;rw[e];have sgt:sg bz=.str (if bz=true then ("1" : Str) else ("0" : Str)):=by cases bz <;> rfl
  rw[sgt];lk;refine{_,if bz=true then 1 else 0,rfl,by cases bz <;> decide +kernel,by cases bz <;> decide +kernel,?_};have l1:(dS z (ins.length+i)).length=1:=by rw[fT];cases bz <;> decide +kernel
  refine gF (c:=if bz=true then 48 else 49) (by decide +kernel) (by cases bz <;> rfl) ?_;have cz:({#[if bz=true then 48 else 49]}:Str)=dS z (ins.length+i):=by rw[fT];cases bz <;> decide +kernel
  rw[cz];have s1:=XO z none (some ((ins.length+i:Nat):Int));have s2:=XO z (some (((ins.length+i:Nat):Int)+1)) none;lk;refine jb ⋯ ?_;lk;refine{_,_,rfl,rfl,⋯,?_};lk;refine jb ⋯ ?_;refine{_,_,rfl,rfl,by rw[lap];omega,?_};show dW _ _ _;lk;refine{by simp[sizeLine],λq hq=>?_};generalize hE:upd H5 q _=H6;have S6:ao H5 H6:=by rw[<-hE];exact ag hq
  have q6:H6 q=some (.tup [.str g.1,.str (fH z (ins.length+i))]):=by rw[<-hE];exact af
  clear hE;have hl6:=S6 _ _ hl5;have hd6:=S6 _ _ hd5;lk;refine dr hl6 ⋯ ?_
  have kt:dy H6 (upd H6 l (.lst (vs'++[.ref q]))):=λb xs e=>by
   have:b≠l:=λx=>by rw[x,hl6]at e;cases e
   rw[am this];exact e
  refine{ {_,_,_,_,_,vs'++[.ref q],rfl,af,by simp;omega,?_},aN (SS5.trans S6) hlH,by rw[am dl];exact hd6};rw[tk,so];exact c_ (cE kt (cE (ao.tups S6) hp5)) {q,rfl,kt _ _ q6}
 obtain⟨⟨x5,x6,x7,x8,x9,vs',rfl,hl',hlen,hp⟩,SS,hd'⟩:=pv;refine ck (te:=bV 4) (D:={ nx:=λx H'=>Q V.non H',rt:=Q }) (aj rfl ?_);refine k l vs' H' SS hlH hl' ?_;have e:(gs.zipIdx ins.length).length=gvs.length:=by rw[List.length_zipIdx,lgn]
 rw[<-e,List.take_length]at hp;exact hp
end
inductive PathE (es:List (Str × (Str × Str))) (s:Str):Str->List Str->Prop
 | nil:PathE es s s []
 | snoc {x h nm:Str} {ns:List Str}:x≠s->iA es x=some (nm,h)->PathE es s h ns->PathE es s x (ns++[nm])
theorem iw {ls:F4} (h:ls.length=xs.length):bh (fdK (aA xs) ls) (Sum.inr x)=none↔x∉xs:=by
 rw[cS,iy,Qw (by unfold aA;rw[Qa];omega)];unfold aA;refine not_congr {λq=>?_,λq=>Qj.mpr ⟨x,q,rfl⟩};obtain⟨y,hy,e⟩:=Qj.mp q;cases e;exact hy
theorem AY (nd:xs.Nodup) (e1:xs[i]?=some x) (e2:ls[i]?=some b):bh (fdK (aA xs) ls) (Sum.inr x)=some (.ref b):=by
 refine eL (gR nd) (i:=i) ?_;have hz:((aA xs).zip ls)[i]?=some (Sum.inr x,b):=List.getElem?_zip_eq_some.mpr {cU.mpr ⟨x,e1,rfl⟩,e2};unfold fdK;rw[Qi,hz];rfl
theorem wR (h:ls.length=xs.length):fdK (aA (xs++[x])) (ls++[b])=fdK (aA xs) ls++[(Sum.inr x,.ref b)]:=by
 unfold fdK aA;rw[Qt,List.zip_append (by rw[Qa];omega),Qt];rfl
section
end
theorem rJ (ok:NetOk ins gs) (st:StOk (aq ins gs).length z) (ln:(Bf.bfs (nxK (stN ins gs)) (Sum.inr z) n).length=n):∃xs,Bf.bfs (nxK (stN ins gs)) (Sum.inr z) n=aA xs/\xs.length=n/\Met ins gs z xs/\xs.length<=2048:=by
 have w11:(aq ins gs).length<=11:=by rw[bZ];have:=ok.i4;have:=ok.g7;omega
 obtain⟨xs,exs⟩:=qu (ks:=Bf.bfs (nxK (stN ins gs)) (Sum.inr z) n) λk hk=>by
  obtain⟨y,e,_⟩:=fO st (Bf.cX n k hk);exact⟨y,e⟩
 have lxs:xs.length=n:=by rw[<-ln,exs];unfold aA;rw[Qa]
 have met:Met ins gs z xs:={by rw[lxs];exact exs.symm,λx hx=>by
  obtain⟨y,e,sy⟩:=fO st (Bf.cX n (Sum.inr x) (by rw[exs];exact Qj.mpr ⟨x,hx,rfl⟩));cases e
  exact sy}
 refine{xs,exs,lxs,met,?_}
 have:=fY w11 (xs:=aA xs) (by rw[<-exs];exact Bf.cB n) λx hx=>by
  obtain⟨y,hy,rfl⟩:=Qj.mp hx;exact{y,rfl,met.st y hy}
 unfold aA at this;rwa [Qa]at this
theorem xO {X:Cx} {K:PySem.W.Frag} (h:X.K=K) (hu:X.A.units+64<cLine):OpR X (compareOp .Eq) (pT K false):=by subst h;exact n9 hu
theorem Met.few (m:Met ins gs z xs) (ok:NetOk ins gs):xs.length<=2048:=by
 have w11:(aq ins gs).length<=11:=by rw[bZ];have:=ok.i4;have:=ok.g7;omega
 have:=fY w11 (xs:=aA xs) (by unfold aA;exact List.Pairwise.map _ (λa b h zz=>h (Sum.inr.inj zz)) m.nd) λx hx=>by
  obtain⟨y,hy,rfl⟩:=Qj.mp hx;exact{y,rfl,m.st y hy}
 unfold aA at this;rwa [Qa]at this
theorem rW (h:Rd H F (.dK (fdK (aA xs) as))) (l:as.length=xs.length):Ec K H F xs:=.inr {_,h,by rw[iy,Qw (by unfold aA;rw[Qa];omega)];rfl}
theorem dZ (h:Rd H F (.dK (fdK (aA xs) as))) (nd:xs.Nodup) (e1:xs[i]?=some x) (e2:as[i]?=some b):cK H F (.str x) (some (.ref b)) :=
 .inl {_,Sum.inr x,h,rfl,(AY nd e1 e2).symm}
def eY:Sp:=λvs H Q _=>∃(F:Addr) (xs:List Str) (as:F4) (cnt:Str->Nat),vs=[.ref F]/\Rd H F (.dK (fdK (aA xs) as))/\as.length=xs.length/\xs.length<=2048/\xs.Nodup /\
 (∀(i:Nat) x b,xs[i]?=some x->as[i]?=some b->∃vs,H b=some (.lst vs)/\vs.length=cnt x)/\∀(p:Addr) (ss:List Str) (H':Hp),ao H H'->H p=none->ss.Perm xs->ss.Pairwise leT->H' p=some (.lst ((ss.filter λh=>decide (cnt h=0)).map V.str))->Q (.ref p) H'
section
theorem pI:FnScope ["steps"] ["steps"] (aB (top 20)):=by fin2
theorem rn {f:Addr} {fd:FuncData} (Fu:Fun K "rests_in" "rests_in" (top 20) f fd) (T:Txt K mg TT):FnOk P w K mg base CX0 1 f fd ["steps"] eY:=by
 have S:=pI;refine Fu.ok S (by room) (λcdv A outer s H vs Q E hr h=>?_);obtain⟨F,xs,as,cnt,rfl,hF,las,few,nd,sts,k⟩:=h;have hu:=du hr;refine{_,(a9 (aK (mE (tgs:=["here"]) (cap:=[("steps", 0)]) rfl ⟨rfl,rfl,rfl,rfl,rfl,rfl⟩ (bx (aE (gY rfl) (by rfl) T.n_sorted Xq (aa (pv 0) ad ai))) (λ_ _ _ _=>(dH (i:=0) (show List.Nodup [("here" : Str),("steps" : Str)] by decide +kernel) rfl (by z_go))) (λ_ _ _ _=>(ki (aM cH (aE (dJ (K:=K) rfl) (by rfl) T.n_len QJ (aa (bG hu (pv 1) (pv 0)) ad)) ae (aP _)))) (λ_ _ _ _=>(pv 0))))),?_};x_go;refine ck (bR (s_list (dN (ak (aj rfl (aC {F,xs,rfl,rW hF las,⋯,λp ss hp pm so=>?_}))))));ctx_has H p H1 S1 q1 aJ hp;have lss:=pm.length_eq;refine{p,rfl,{_,SqL.of q1},λL hL=>?_};refine gX (xs:=ss.map V.str) (λm H' ys=>ao H1 H'/\H' L=some (.lst ys)/\ys=((ss.take m).filter λh=>decide (cnt h=0)).map V.str) {ag hL,af,by simp} (λm H' ys p=>{p.2.1,SqL.of (p.1 _ _ q1)}) (λm v H' ys e p=>?_) (λH' ys p=>?_)
 ·obtain⟨Sm,hd,rfl⟩:=p;rw[Qi]at e
  cases ex:ss[m]? with
  | none=>rw[ex]at e;cases e
  | some x =>
  rw[ex]at e;cases e;have hm:m<ss.length:=(Qe.mp ex).1;obtain⟨i,hi,exi⟩:=Qo.mp (pm.mem_iff.mp (Qg ex));have e1:xs[i]?=some x:=by rw[Qc hi,exi]
  obtain⟨b,e2⟩:∃b,as[i]?=some b:={_,Qc ⋯};obtain⟨vs,hvs,lvs⟩:=sts i x b e1 e2;have S0m:=S1.trans Sm
  have hF':Rd H' F (.dK (fdK (aA xs) as)):=by
   rcases hF with r|⟨o,r⟩
   ·exact .inl (S0m _ _ r)
   exact .inr {o,S0m _ _ r}
  refine az {by repeat' (first|exact trivial|refine{rfl,?_}),?_};refine i_test (aV (dN (ak (i_dget (aj rfl (aj rfl {F,_,rfl,dZ hF' nd e1 e2,aC {b,vs,rfl,.inl (SqL.of (S0m _ _ hvs)),i_c (i_eq rfl {_,rfl,?_})} }))))));have tk:(ss.take (m+1)).filter (λh=>decide (cnt h=0))=(ss.take m).filter (λh=>decide (cnt h=0))++[x].filter (λh=>decide (cnt h=0)):=by rw[QV,ex,List.filter_append];rfl
  by_cases c:cnt x=0
  ·refine ifT (by rw[lvs,c];rfl) ?_;refine aj rfl (b8.mk hd (by rw[Qa];exact hm) ?_ {aN Sm hL,af,?_})
   ·rw[Qa];have:=List.length_filter_le (λh=>decide (cnt h=0)) (ss.take m);rw[Qv]at this;omega
   rw[tk,Qt];simp[c]
  refine ifF (by rw[lvs];exact QY λz=>c (by injection z with z;omega)) ?_;rw[Qa];refine{ss.length-(m+1),⋯,rfl,⋯,Sm,hd,?_};rw[tk];simp[c]
 obtain⟨Sm,hd,rfl⟩:=p;rw[Qa,Qw (Qh _)]at hd;exact k L ss H' (S1.trans Sm) (ao.free S1 hL) pm so hd
end
def sL (K:PySem.W.Frag) (TL:Addr):Sp:=λvs H Q _=>∃(a:Addr) (ns:List Int),vs=[.ref a]/\SqL K H a (ns.map V.int)/\ns.length<=63/\fK TL eT H/\∀H',Q (.bl true) H'
theorem Tk.free (k:Tk T H H') (h:H' p=none):H p=none:=by
 cases e:H p with
 | none=>rfl
 | some u =>
 by_cases c:p=T
 ·obtain⟨ps,e2⟩:=zR k.tab;rw[c,e2]at h;cases h
 rw[k.old _ _ e c]at h;cases h
theorem Tk.upd {o:HO} {xs:List V} (k:Tk T H H') (hp:H p=none) (h':H' p=some (.lst xs)):Tk T H (L2.upd H' p o):=by
 refine{λb u e n=>by rw[am (aG e hp)];exact k.old b u e n,?_};rcases k.tab with e|⟨c,e,q⟩
 ·exact .inl (by rw[am (λz=>by rw[z,h']at e;cases e)];exact e)
 exact .inr {c,by rw[am (λz=>by rw[z,h']at e;cases e)];exact e,by rw[am (λz=>by rw[z,h']at q;cases q)];exact q}
section
end
inductive Run (ins:List Str) (gs:F5):Str->List Str->Str->Prop where
 | nil {z:Str}:Run ins gs z [] z
 | cons {z y w:Str} {n:Str} {os:List Str}:(n,y)∈au ins gs z->StOk (aq ins gs).length y->Run ins gs y os w->Run ins gs z (n::os) w
section
end
theorem hZ {n:Str} (st:StOk (aq ins gs).length z) (h:(n,y)∈au ins gs z):StOk (aq ins gs).length y:=by
 unfold au at h;obtain⟨⟨g,p⟩,hm,e⟩:=List.mem_filterMap.mp h;have hp:=List.mem_zipIdx hm;have wl:(aq ins gs).length=ins.length+gs.length:=by unfold aq;rw[Qk,Qa]
 unfold cC at e
 split at e
 ·cases e
 cases e;exact sw st ⋯
structure Wlk (ins:List Str) (gs:F5) (z:Str) (os as:List Str):Prop where
 len:as.length=os.length+1
 hd:as[0]?=some z
 st:∀x∈as,StOk (aq ins gs).length x
 step:∀(k:Nat) x n y,as[k]?=some x->os[k]?=some n->as[k+1]?=some y->(n,y)∈au ins gs x
theorem Wlk.run {as:List Str} (W:Wlk ins gs z os as):∀(m i:Nat) x y,i+m<=os.length->as[i]?=some x->as[i+m]?=some y->Run ins gs x ((os.drop i).take m) y
 | 0,i,x,y,_,hx,hy=>by
  rw[Nat.add_zero,hx]at hy;cases hy;exact .nil
 | m+1,i,x,y,hl,hx,hy=>by
  have hi:i<os.length:=by omega
  have len:=W.len;obtain⟨u,hu⟩:∃u,as[i+1]?=some u:={as[i+1]'⋯,Qc _};rw[List.drop_eq_getElem_cons hi,List.take_succ_cons];refine .cons (W.step i x _ u hx (Qc hi) hu) (W.st u (Qg hu)) (W.run m (i+1) u y ⋯ hu ?_);rw[show i+1+m=i+(m+1) from ⋯];exact hy
theorem xj (h:ns[j]?=some x) (hl:ns.length=j+1):atI (ns.map V.str) (-1)=some (.str x):=by
 have e:ixN (ns.map V.str).length (-1)=some j:=by
  unfold ixN;rw[Qa,QI (by decide),QL ⋯];congr 1;omega
 unfold atI;rw[e];show (ns.map V.str)[j]?=_;rw[Qi,h];rfl
def sK:Sp:=λvs H Q _=>∃(a li lg:Addr) (ins:List Str) (gvs:List V) (gs:F5) (z:Str) (d:Addr) (ds:List Int) (spot:Int) (m:Nat),vs=[.ref a,.str z,.ref d,.int spot,.int m]/\NAt H a li lg ins gvs gs/\NetOk ins gs/\StOk (aq ins gs).length z/\H d=some (.lst (ds.map V.int))/\DOk ds/\m<=130 /\
 ∀t oa la os as H',ao H H'->H' t=some (.tup [.ref oa,.ref la])->H' oa=some (.lst (os.map V.str))->H' la=some (.lst (as.map V.str))->os.length<=m->Wlk ins gs z os as->(os.length=m\/∃x,as[os.length]?=some x/\au ins gs x=[])->Q (.ref t) H'
section
theorem nE:FnScope ["net", "standing", "d", "spot", "most", "order", "along", "k", "some", "name", "there"] ["net", "standing", "d", "spot", "most"] (aB (top 44)):=by fin2
theorem wc {f:Addr} {fd:FuncData} (Fu:Fun K "_law_order" "_law_order" (top 44) f fd) (T:Txt K mg TT) (f_law_asked:Fn P w K mg base "_law_asked" ["net", "standing"] 11 eO):FnOk P w K mg base CX0 12 f fd ["net", "standing", "d", "spot", "most"] sK:=by
 have S:=nE;refine Fu.ok S (by room) (λcdv A outer s H vs Q E hr h=>?_);obtain⟨a,li,lg,ins,gvs,gs,z,d,ds,spot,m,rfl,NA,ok,st,hd,dok,m40,k⟩:=h;refine'{?_,?bb,?_}
 case bb =>
  walk_at "b";exact aF 5 S.nd (aY ad);exact aF 6 S.nd (aY (aa (pv 1) ad ai));walk_at "f";exact(ce (by rfl) T.n_range (aa (pv 4) ad ai));exact(bO 7 S.nd);walk_at "p";exact aF 8 S.nd (aS f_law_asked hr (aa (pv 0) (aa (aD aH (pv 6) (i8 fM ae)) ad) ai));exact(aM (n8 hr.units) (pv 8) (aY ad) (aP _));exact(j_ (aD aH (pv 8) (ap aR (aD aH (pv 2) (ap aR (ap aO (pv 3) (pv 7)) (aE aI (by rfl) T.n_len QJ (aa (pv 2) ad ai)))) (aE aI (by rfl) T.n_len QJ (aa (pv 8) ad ai)))) (fR rfl (bC (bO 9 S.nd) (bC (bO 10 S.nd) dX))));exact(bB (cL QB QC QE a7 (pv 5) (aa (pv 9) ad ai)));exact(bB (cL QB QC QE a7 (pv 6) (aa (pv 10) ad ai)));exact(aK (bq (aa (pv 5) (aa (pv 6) ad ai) ai)))
 x_go;have g7:=ok.g7;lk;refine{by decide,λoa hoa=>?_};ctx_has H oa H1 S1 q1 b_ hoa;lk;refine{by show 1<=sizeLine;decide,λla hla=>?_};ctx_has H1 la H2 S2 q2 b_ hla;have laH:H la=none:=ao.free S1 hla;have nol:oa≠la:=aG q1 hla;lk;refine{⋯,⋯,?_};rw[Xh];let I25:IvF:=λi U H'=>(∃x7 x8 x9 x10 os as,U=[some (.ref a),some (.str z),some (.ref d),some (.int spot),some (.int m),some (.ref oa),some (.ref la),x7,x8,x9,x10]/\H' oa=some (.lst (os.map V.str))/\H' la=some (.lst (as.map V.str))/\os.length<=i/\Wlk ins gs z os as/\(os.length=i\/∃x,as[os.length]?=some x/\au ins gs x=[]))/\ao H H'
 refine cV (n:=m) I25
  { {_,_,_,_,[],[z],rfl,S2 _ _ q1,q2,Qh _,{rfl,rfl,λx hx=>by rw[Qr]at hx;rw[hx];exact st,λk x n y _ h=>by simp at h},.inl rfl},S1.trans S2} (λi U H' hi pv=>?_) (λU H' pv=>?_)
 ·obtain⟨⟨x7,x8,x9,x10,os,as,rfl,ho,hl,lo,W,rs⟩,SS⟩:=pv;have len:=W.len;obtain⟨x,hx⟩:∃x,as[os.length]?=some x:={as[os.length]'⋯,Qc _};have stx:=W.st x (Qg hx);refine az ?_;lk;refine bd (SqL.of hl) (xj hx len) ?_;lk;refine{a,li,lg,ins,gvs,gs,x,rfl,NA.same SS,ok,stx,λl vs' H3 S3 nl hl3 pr=>?_};have SS3:=SS.trans S3;have ho3:=S3 _ _ ho;have hla3:=S3 _ _ hl;have lv:=aQ pr;lk;refine{by decide,λp hp=>?_};ctx_has H3 p H4 S4 q4 b_ hp;have SS4:=SS3.trans S4;have hl4:=S4 _ _ hl3;refine{l,p,vs',[],λ_=>true,rfl,rfl,SqL.of hl4,SqL.of q4,(λj x y _ h=>by simp at h),{_,rfl,?_} };refine eW (λhne=>?_) (λhno=>{ {_,_,_,_,os,as,rfl,(S3.trans S4) _ _ ho,(S3.trans S4) _ _ hl,⋯,W,.inr {x,hx,?_} },SS4});rotate_left
  ·have:vs'=[]:=by
    cases vs' with
    | nil=>rfl
    | cons b r=>simp at hno
   subst this;exact Q8 lv.symm
  have vne:0<vs'.length:=by
   cases vs' with
   | nil=>simp at hne
   | cons b r=>simp
  have lo2:=dok.lo;have hd4:=SS4 _ _ hd;lk;refine dj (by rw[Qa];omega) ?_;obtain⟨dv,dv0,dv1,edv⟩:=lB dok (spot+(0+(i:Int)));refine bd (SqL.of (SS4 _ _ hd)) edv ?_;lk;refine dj (by show (0:Int)<(vs'.length:Int);omega) ?_;have m0:0<=dv % (vs'.length:Int):=Int.emod_nonneg _ ⋯;have m1:dv % (vs'.length:Int)<vs'.length:=XU _ ⋯;obtain⟨jj,ejj⟩:∃jj:Nat,dv % (vs'.length:Int)=(jj:Int):={(dv % (vs'.length:Int)).toNat,⋯};rw[ejj]at m0 m1 ⊢;obtain⟨sv,hsv⟩:∃sv,vs'[jj]?=some sv:={vs'[jj]'⋯,Qc _};obtain⟨pp,hpp,b,eb,hb⟩:=dB pr jj sv hsv;subst eb;refine bd (SqL.of hl4) (bQ hsv) ?_;have hmem:(pp.1,pp.2)∈au ins gs x:=Qg hpp;refine{b,_,rfl,SqT.of (S4 _ _ hb),rfl,?_};refine{_,_,rfl,az {_,_,rfl,az {rfl,?_} } };have ho4:=(S3.trans S4) _ _ ho;have hla4:=(S3.trans S4) _ _ hl;lk;refine dr ho4 (by rw[Qa];omega) ?_;have hla5:upd H4 oa (.lst (os.map V.str++[.str pp.1])) la=some (.lst (as.map V.str)):=by rw[am nol.symm];exact hla4
  have ho5:upd H4 oa (.lst (os.map V.str++[.str pp.1])) oa=some (.lst (os.map V.str++[.str pp.1])):=af;have SS5:=aN (D:=oa) (o:=.lst (os.map V.str++[.str pp.1])) SS4 hoa;generalize upd H4 oa (.lst (os.map V.str++[.str pp.1]))=H5 at *;lk;refine dr hla5 (by rw[Qa];omega) ?_;refine{ {_,_,_,_,os++[pp.1],as++[pp.2],rfl,by rw[am nol,ho5];simp,by rw[af];simp,by simp;omega,?_,?_},aN SS5 laH};rotate_left
  ·rcases rs with rs|⟨x',hx',e'⟩
   ·exact .inl (by simp[rs])
   rw[hx]at hx';cases hx';rw[e']at hmem;cases hmem
  refine{by simp[len],by rw[QF ⋯];exact W.hd,λu hu=>?_,λq u n y h1 h2 h3=>?_}
  ·rcases Qp.mp hu with h|h
   ·exact W.st u h
   rw[Qr]at h;rw[h];exact hZ stx hmem
  by_cases hq:q<os.length
  ·rw[QF ⋯]at h1 h2 h3;exact W.step q u n y h1 h2 h3
  have:q=os.length:=by
   have:=(Qe.mp h2).1;simp at this;omega
  subst this;rw[QF ⋯,hx]at h1;rw[QH ⋯]at h2;rw[QH ⋯]at h3;simp at h2;have e3:os.length+1-as.length=0:=by omega
  rw[e3]at h3;simp at h3;cases h1;rw[<-h2,<-h3];exact hmem
 obtain⟨⟨x7,x8,x9,x10,os,as,rfl,ho,hl,lo,W,rs⟩,SS⟩:=pv;lk;refine{by simp[sizeLine],λt ht=>?_};ctx_has H' t H3 S3 q3 b_ ht;exact k t oa la os as H3 (SS.trans S3) q3 (S3 _ _ ho) (S3 _ _ hl) lo W rs
end
theorem tQ {st:Str->List (Str × Str)}:∀{xs:List Str} {x nm h:Str},iA (evs st xs) x=some (nm,h)->∃b:Nat,xs[b]?=some h/\(nm,x)∈st h/\∀(c:Nat) g,c<b->xs[c]?=some g->∀p∈st g,p.2≠x
 | [],x,nm,h,e=>by cases e
 | x0::xs,x,nm,h,e=>by
  have split:evs st (x0::xs)=((st x0).map λp=>(p.2,(p.1,x0)))++evs st xs:=rfl;unfold iA at e;rw[split,List.find?_append]at e
  cases q:((st x0).map λp=>(p.2,(p.1,x0))).find? λe=>e.1==x with
  | some r =>
   rw[q]at e;have hm:=List.mem_of_find?_eq_some q;have hx:=List.find?_some q;obtain⟨p',hp,rfl⟩:=Qj.mp hm;cases e;have hx:p'.2=x:=by simpa using hx
   exact{0,rfl,by rw[<-hx];exact hp,λc g l=>by omega}
  | none =>
  rw[q,Option.none_or]at e;obtain⟨b,h1,h2,h3⟩:=tQ (xs:=xs) (x:=x) (nm:=nm) (h:=h) e;refine{b+1,by simpa using h1,h2,λc g l e2 p hp z=>?_}
  cases c with
  | zero =>
   simp at e2;subst e2;have:=List.find?_eq_none.mp q (p.2,(p.1,x0)) (Qj.mpr ⟨p,hp,rfl⟩);simp[z]at this
  | succ c=>exact h3 c g ⋯ (by simpa using e2) p hp z
section
theorem Run.snoc {x y w n:Str} {os:List Str} (r:Run ins gs x os y) (s:(n,w)∈au ins gs y) (st:StOk (aq ins gs).length w):Run ins gs x (os++[n]) w:=by
 induction r with
 | nil=>exact .cons s st .nil
 | cons a b _ ih=>exact .cons a b (ih s)
theorem Met.run (m:Met ins gs z xs) {y:Str} {ns:List Str} (p:Path (au ins gs) xs z y ns):y∈xs/\Run ins gs z ns y:=by
 induction p with
 | nil=>exact{Qg m.zero,.nil}
 | snoc ne c p ih =>
 obtain⟨b,hb,hs,_⟩:=tQ c;have hm:=m.closed (Qg hb) hs;exact{hm,ih.2.snoc hs (m.st _ hm)}
end
def cY (ins:List Str) (gs:F5) (z:Str) (n:Nat):Prop:=(∀os y,Run ins gs z os y->os.length<=n)/\∃os y,Run ins gs z os y/\os.length=n
def nxS (ins:List Str) (gs:F5) (h:Str):List Str:=(au ins gs h).map (·.2)
def ahL (es:List (Str × (Str × Str))) (x:Str):List Str:=(es.filter λe=>e.1==x).map (·.2.2)
theorem g_ (a b:List (Str × (Str × Str))) (x:Str):ahL (a++b) x=ahL a x++ahL b x:=by unfold ahL;rw[List.filter_append,Qt]
theorem tU (y x:Str):∀ps:List (Str × Str),ahL (ps.map λp=>(p.2,(p.1,y))) x=List.replicate ((ps.map (·.2)).count x) y
 | []=>rfl
 | p::ps=>by
  rw[QM,QM,List.count_cons,show ((p.2,p.1,y)::ps.map λp=>(p.2,p.1,y))=[(p.2,p.1,y)]++ps.map λp=>(p.2,p.1,y) from rfl,g_,tU y x ps];by_cases c:p.2=x
  ·rw[QL (by simpa using c),List.replicate_succ];unfold ahL;simp[c]
  rw[QI (by simpa using c)];unfold ahL;simp[c]
theorem tV {b:Str} (h:b∈ahL (evs st xs) x):b∈xs/\x∈(st b).map (·.2):=by
 unfold ahL evs at h;obtain⟨e,he,rfl⟩:=Qj.mp h;obtain⟨h1,h2⟩:=List.mem_filter.mp he;obtain⟨y,hy,h3⟩:=List.mem_flatMap.mp h1;obtain⟨p,hp,rfl⟩:=Qj.mp h3;exact{hy,Qj.mpr {p,hp,by simpa using h2} }
theorem iV {st:Str->List (Str × Str)} {x h:Str}:∀{xs:List Str},xs.Nodup->h∈xs->(ahL (evs st xs) x).count h=((st h).map (·.2)).count x
 | [],_,m=>nomatch m
 | y::xs,nd,m=>by
  rw[Q4]at nd;have e:evs st (y::xs)=((st y).map λp=>(p.2,(p.1,y)))++evs st xs:=by unfold evs;rw[List.flatMap_cons]
  rw[e,g_,tU,List.count_append,List.count_replicate];by_cases c:y=h
  ·subst c;rw[QL (by simp),List.count_eq_zero_of_not_mem (λq=>nd.1 (tV q).1),Nat.add_zero]
  rw[QI (by simpa using c),Nat.zero_add];exact iV nd.2 ((QO.mp m).resolve_left λz=>c z.symm)
def cP (ws l:List Str):Nat:=l.countP λx=>decide (x∈ws)
theorem oF {ws:List Str} {w:Str} (h:w∉ws):∀l,cP (ws++[w]) l=cP ws l+l.count w
 | []=>rfl
 | x::l=>by
  have ih:=oF h l;unfold cP at ih ⊢;rw[List.countP_cons,List.countP_cons,List.count_cons,ih];by_cases c:x=w
  ·subst c;simp[h];omega
  simp[c];omega
theorem D9 (ws l:List Str):cP ws l<=l.length:=List.countP_le_length
theorem A0 {ws l:List Str} (h:cP ws l=l.length):∀x∈l,x∈ws:=λx hx=>by simpa using List.countP_eq_length.mp h x hx
section
variable {h b:Str}
theorem cY.rest (e:au ins gs h=[]):cY ins gs h 0:=by
 refine{λos y r=>?_,[],h,.nil,rfl}
 cases r with
 | nil=>exact Qh _
 | cons m _ _=>rw[e]at m;cases m
variable {n a:Nat}
theorem cY.up (st:StOk (aq ins gs).length h) (all:∀p∈au ins gs h,∃m,m<=n/\cY ins gs p.2 m) (one:∃p∈au ins gs h,cY ins gs p.2 n):cY ins gs h (n+1):=by
 refine{λos y r=>?_,?_}
 ·cases r with
  | nil=>exact QG _
  | @cons _ y _ nm os m _ r =>
   obtain⟨k,hk,l⟩:=all _ m;have:=l.1 _ _ r;rw[QS];omega
 obtain⟨p,hp,_,os,y,r,e⟩:=one;exact{p.1::os,y,.cons hp (hZ st hp) r,by rw[QS,e]}
theorem cY.at (l:cY ins gs h n) (st:StOk (aq ins gs).length h) {p:Str × Str} (hp:p∈au ins gs h):∀os y,Run ins gs p.2 os y->os.length+1<=n:=λos y r=>by
 have:=l.1 (p.1::os) y (.cons hp (hZ st hp) r);simpa using this
structure NumOk (ins:List Str) (gs:F5) (xs:List Str) (ps:List (Str × Nat)):Prop where
 nd:(ps.map (·.1)).Nodup
 sub:∀p∈ps,p.1∈xs
 long:∀p∈ps,cY ins gs p.1 p.2
 out:∀h∈xs,h∉ps.map (·.1)->∃p∈au ins gs h,p.2∉ps.map (·.1)
structure Cnt (ins:List Str) (gs:F5) (xs:List Str) (ps:List (Str × Nat)) (a:Nat) (tk:List Str) (lf:Str->Int):Prop where
 nd:(ps.map (·.1)).Nodup
 sub:∀p∈ps,p.1∈xs
 mono:∀(i j:Nat) p q,i<=j->ps[i]?=some p->ps[j]?=some q->p.2<=q.2
 near:∀(i:Nat) p q,a<=i->ps[i]?=some p->q∈ps->q.2<=p.2+1
 long:∀p∈ps,cY ins gs p.1 p.2
 val:∀h∈xs,lf h=((nxS ins gs h).length:Int)-cP ((ps.take a).map (·.1)) (nxS ins gs h)-tk.count h
 zero:∀h∈xs,lf h=0↔h∈ps.map (·.1)
variable {rs tk tl:List Str}
theorem Cnt.start (nd:rs.Nodup) (h:∀x,x∈rs↔x∈xs/\au ins gs x=[]):Cnt ins gs xs (rs.map λx=>(x,0)) 0 [] λx=>((au ins gs x).length:Int):=by
 have e:(rs.map λx=>(x,0)).map (·.1)=rs:=by rw[QT];exact List.map_id _
 have z0:∀p∈rs.map λx=>((x,0):Str × Nat),p.2=0/\p.1∈rs:=λp hp=>by
  obtain⟨x,hx,rfl⟩:=Qj.mp hp;exact⟨rfl,hx⟩
 refine{by rw[e];exact nd,λp hp=>((h _).mp (z0 p hp).2).1,λi j p q _ hp hq=>?_,λi p q _ hp hq=>?_,λp hp=>?_,λx hx=>?_,λx hx=>?_}
 ·rw[(z0 p (Qg hp)).1];exact QG _
 ·rw[(z0 q hq).1];exact QG _
 ·rw[(z0 p hp).1];exact .rest ((h _).mp (z0 p hp).2).2
 ·unfold nxS cP;rw[Qa];simp
 rw[e,h];show ((au ins gs x).length:Int)=0↔_;rw[<-Xl];exact{λq=>{hx,⋯},λq=>by omega}
variable {lf:Str->Int} {ps:List (Str × Nat)}
theorem Cnt.few (c:Cnt ins gs xs ps a tk lf):ps.length<=xs.length:=by
 have:=Bf.pigeon (ps.map (·.1)) xs c.nd λx hx=>by
  obtain⟨p,hp,rfl⟩:=Qj.mp hx;exact c.sub p hp
 rwa [Qa]at this
theorem Cnt.go (m:Met ins gs z xs) (c:Cnt ins gs xs ps a tk lf) {here:Str × Nat} (e:ps[a]?=some here) (full:ahL (evs (au ins gs) xs) here.1=tk++b::tl) :
  b∈xs/\b∉ps.map (·.1)/\(lf b-1=0->Cnt ins gs xs (ps++[(b,here.2+1)]) a (tk++[b]) λx=>if x=b then lf b-1 else lf x)/\(lf b-1≠0->Cnt ins gs xs ps a (tk++[b]) λx=>if x=b then lf b-1 else lf x):=by
 obtain⟨hb,hin⟩:=tV (show b∈ahL (evs (au ins gs) xs) here.1 by rw[full];simp);have hc:=iV (st:=au ins gs) (x:=here.1) m.nd hb;rw[full,List.count_append,List.count_cons]at hc;simp only[beq_self_eq_true,if_true]at hc;have ha:a<ps.length:=(Qe.mp e).1
 have hout:here.1∉(ps.take a).map (·.1):=λq=>by
  obtain⟨i,hi,ei⟩:=Qo.mp q;rw[Qa,Qv]at hi;rw[List.getElem_map,List.getElem_take]at ei;have nd:=c.nd;have:=(List.getElem_inj (i:=i) (j:=a) (h₀:=by rw[Qa];omega) (h₁:=by rw[Qa];exact ha) nd).mp (by rw[List.getElem_map,List.getElem_map,ei,(Qe.mp e).2]);omega
 have hsn:=oF hout (nxS ins gs b);have hle:=D9 ((ps.take a).map (·.1)++[here.1]) (nxS ins gs b);have hl:=c.val b hb;have hnx:((au ins gs b).map (·.2))=nxS ins gs b:=rfl;rw[hnx]at hc;have lfb:1<=lf b:=by omega
 have bout:b∉ps.map (·.1):=λq=>by
  have:=(c.zero b hb).mpr q;omega
 have lfs:∀(qs:List (Str × Nat)),(qs.take a).map (·.1)=(ps.take a).map (·.1)->∀h∈xs,(if h=b then lf b-1 else lf h)=((nxS ins gs h).length:Int)-cP ((qs.take a).map (·.1)) (nxS ins gs h)-(tk++[b]).count h:=λqs eq h hh=>by
  rw[eq,List.count_append,List.count_singleton];by_cases cb:h=b
  ·subst cb;rw[QL rfl,hl];simp;omega
  rw[QI cb,c.val h hh,QI (by simpa using λz=>cb z.symm)];simp
 refine{hb,bout,λz0=>?_,λz0=>?_}
 ·have et:((ps++[(b,here.2+1)]).take a).map (·.1)=(ps.take a).map (·.1):=by rw[List.take_append_of_le_length ⋯]
  have hq2:∀q∈ps,q.2<=here.2+1:=λq hq=>c.near a here q (Qh _) e hq
  have ge:∀(i:Nat) p,(ps++[(b,here.2+1)])[i]?=some p->(ps[i]?=some p)\/(i=ps.length/\p=(b,here.2+1)):=λi p hp=>by
   by_cases ci:i<ps.length
   ·rw[QF ci]at hp;exact .inl hp
   rw[QH ⋯]at hp
   have:i-ps.length=0:=by
    have:=(Qe.mp hp).1;simp at this;omega
   rw[this]at hp;cases hp;exact .inr {⋯,rfl}
  have mem:∀q,q∈ps++[(b,here.2+1)]->q∈ps\/q=(b,here.2+1):=λq hq=>(Qp.mp hq).imp id Qr.mp
  have lb:cY ins gs b (here.2+1):=by
   refine .up (m.st b hb) (λp hp=>?_) ?_
   ·have all:=A0 (ws:=(ps.take a).map (·.1)++[here.1]) (l:=nxS ins gs b) ⋯ p.2 (Qj.mpr ⟨p,hp,rfl⟩);rcases Qp.mp all with q|q
    ·obtain⟨r,hr,er⟩:=Qj.mp q;obtain⟨i,hi⟩:=List.mem_iff_getElem?.mp hr
     have hia:i<a:=by
      have:=(Qe.mp hi).1;rw[Qv]at this;omega
     rw[List.getElem?_take_of_lt hia]at hi;exact{r.2,c.mono i a r here ⋯ hi e,by rw[<-er];exact c.long r (Qg hi)}
    rw[Qr]at q;exact{here.2,Qh _,by rw[q];exact c.long here (Qg e)}
   obtain⟨p,hp,ep⟩:=Qj.mp hin;exact{p,hp,by rw[ep];exact c.long here (Qg e)}
  refine{?_,λq hq=>?_,λi j p q hij hp hq=>?_,λi p q hi hp hq=>?_,λq hq=>?_,lfs _ et,λh hh=>?_}
  ·rw[Qt]
   exact Xz.mpr {c.nd,by simp,λx hx y hy z=>by
    have:y=b:=by simpa using hy
    exact bout (by rw[<-this,<-z];exact hx)}
  ·rcases mem q hq with q'|rfl
   ·exact c.sub q q'
   exact hb
  ·rcases ge i p hp with hp|⟨hp1,rfl⟩
   ·rcases ge j q hq with hq|⟨hq1,rfl⟩
    ·exact c.mono i j p q hij hp hq
    exact hq2 p (Qg hp)
   rcases ge j q hq with hq|⟨hq1,rfl⟩
   ·have:=(Qe.mp hq).1;omega
   exact Qh _
  ·rcases ge i p hp with hp|⟨hp1,rfl⟩
   ·have hm:=c.mono a i here p hi e hp;rcases mem q hq with q'|rfl
    ·exact c.near i p q hi hp q'
    show here.2+1<=p.2+1;omega
   rcases mem q hq with q'|rfl
   ·have:=hq2 q q';show q.2<=here.2+1+1;omega
   show here.2+1<=here.2+1+1;omega
  ·rcases mem q hq with q'|rfl
   ·exact c.long q q'
   exact lb
  rw[Qt,Qp];by_cases cb:h=b
  ·subst cb;rw[QL rfl];exact{λ_=>.inr (by simp),λ_=>z0}
  rw[QI cb,c.zero h hh];exact{.inl,λq=>q.resolve_right λy=>cb (by simpa using y)}
 refine{c.nd,c.sub,c.mono,c.near,c.long,lfs _ rfl,λh hh=>?_};by_cases cb:h=b
 ·subst cb;rw[QL rfl];exact{λq=>absurd q z0,λq=>absurd q bout}
 rw[QI cb];exact c.zero h hh
theorem Cnt.turn (m:Met ins gs z xs) {here:Str × Nat} (e:ps[a]?=some here) (c:Cnt ins gs xs ps a (ahL (evs (au ins gs) xs) here.1) lf):Cnt ins gs xs ps (a+1) [] lf:=by
 have ha:a<ps.length:=(Qe.mp e).1;have et:(ps.take (a+1)).map (·.1)=(ps.take a).map (·.1)++[here.1]:=by rw[QV,e,Qt];rfl
 have hout:here.1∉(ps.take a).map (·.1):=λq=>by
  have nd:=c.nd;rw[<-QZ (a+1) ps,Qt]at nd;have nd:=(Xz.mp nd).1;rw[et]at nd;exact(Xz.mp nd).2.2 _ q _ (by simp) rfl
 refine{c.nd,c.sub,c.mono,λi p q hi hp hq=>c.near i p q ⋯ hp hq,c.long,λh hh=>?_,c.zero};rw[c.val h hh,et,oF hout,iV m.nd hh];show _=_-((cP _ _+(nxS ins gs h).count here.1:Nat):Int)-_;rw[show ((au ins gs h).map (·.2))=nxS ins gs h from rfl];simp;omega
theorem Cnt.fin (c:Cnt ins gs xs ps a [] lf) (e:ps.length<=a):NumOk ins gs xs ps:=by
 refine{c.nd,c.sub,c.long,λh hh ho=>?_};have n0:lf h≠0:=λz=>ho ((c.zero h hh).mp z);have hl:=c.val h hh;rw[Qw e]at hl;simp at hl;by_cases ex:∃p∈au ins gs h,p.2∉ps.map (·.1)
 ·exact ex
 refine absurd ?_ n0
 have:cP (ps.map (·.1)) (nxS ins gs h)=(nxS ins gs h).length:=List.countP_eq_length.mpr λx hx=>by
  obtain⟨p,hp,rfl⟩:=Qj.mp hx;exact Xc (Decidable.byContradiction λq=>ex ⟨p,hp,q⟩)
 rw[hl,this];omega
end
theorem wI {t:TE} (r:Rd H a u) (f:Fz u) (q:∀o,t U (upd H a (.frz o u)) λv H'=>H' a=some (.frz o u)/\Q v (back H a H')):yK t U H Q:=⟨a,u,r,f,q⟩
theorem gS {ta:TA} (q:ta U H λvs H1=>∃l xs ps,vs=[.ref l]/\SqL K H1 l xs/\xs.length<10000/\Paired (qL H1) xs ps/\∀d,H1 d=none->Q (.ref d) (upd H1 d (.dK (bH [] (cO ps))))):np K ta U H Q:=q
theorem zX {rd:V->V->Hp->VK->Prop} {D:Ends} (q:td U H λx H1=>ty U H1 λy H2=>∃a v,x=.ref a/\cK H2 a y (some v)/\tv U H2 λy2 H3=>rd v y2 H3 λz H4=>∃H5,iD H4 a y z H5/\D.nx U H5):yS td ty tv rd D U H:=q
def SD (H:Hp) (F:Addr) (ins:List Str) (gs:F5) (xs:List Str):Prop:=∃as:F4,Rd H F (.dK (fdK (aA xs) as))/\as.length=xs.length/\∀(i:Nat) x b,xs[i]?=some x->as[i]?=some b->bA H b (cN (au ins gs x))
theorem nU (S:ao H H') (r:Rd H a u):Rd H' a u:=by
 rcases r with r|⟨o,r⟩
 ·exact .inl (S _ _ r)
 exact .inr {o,S _ _ r}
variable {H H':Hp} {F:Addr} {ins:List Str} {gs:F5} {xs:List Str}
section
theorem SD.same (S:ao H H') (h:SD H F ins gs xs):SD H' F ins gs xs:=let ⟨as,r,l,s⟩:=h;{as,nU S r,l,λi x b e1 e2=>(s i x b e1 e2).same S}
variable {kvs:List (Key × V)}
theorem ii (r:Rd H F (.dK kvs)) {b:Addr} {o:HO} (e:H b=some o) (n1:∀k,o≠.dK k) (n2:∀ob u,o≠.frz ob u):b≠F:=λz=>by
 rcases r with r|⟨ob,r⟩
 ·rw[z,r]at e;exact n1 _ (Q0 e).symm
 rw[z,r]at e;exact n2 _ _ (Q0 e).symm
theorem mw {o:Obj} (r:Rd H F (.dK kvs)) {b:Addr} {sts:List (V × Key)} (h:bA H b sts):bA (upd H F (.frz o (.dK kvs))) b sts:=by
 obtain⟨vs,h1,h2⟩:=h;refine{vs,by rw[am (ii r h1 (λ_ z=>nomatch z) λ_ _ z=>nomatch z)];exact h1,bX (λv s ⟨c,ec,q⟩=>{c,ec,?_}) h2};rw[am (ii r q (λ_ z=>nomatch z) λ_ _ z=>nomatch z)];exact q
theorem eF {o:Obj} {u:HO} (r:Rd H F u) (S:ao (upd H F (.frz o u)) H'):ao H (back H F H'):=λb w e=>by
 by_cases c:b=F
 ·subst c;rw[gy];exact e
 rw[bY c];exact S _ _ (by rw[am c];exact e)
end
theorem e_ {α β:Type} {R:α->β->Prop}:∀{as:List α} {bs:List β},as.length=bs.length->(∀(i:Nat) a b,as[i]?=some a->bs[i]?=some b->R a b)->Paired R as bs
 | [],[],_,_=>.nil
 | [],_::_,h,_=>by simp at h
 | _::_,[],h,_=>by simp at h
 | a::as,b::bs,h,f=>.cons (f 0 a b rfl rfl) (e_ (by simpa using h) λi x y e1 e2=>f (i+1) x y (by simpa using e1) (by simpa using e2))
theorem gn:∀(ps acc:List (Key × V)),(ps.map (·.1)).Nodup->(∀p∈ps,bh acc p.1=none)->bH acc ps=acc++ps
 | [],acc,_,_=>by rw[List.append_nil];rfl
 | p::ps,acc,nd,h=>by
  rw[QM,Q4]at nd;show bH (cr acc p.1 p.2) ps=_;rw[ee _ (h p (by simp)),gn ps _ nd.2 (λq hq=>?_),Xa]
  ·rfl
  have h1:=cS.mp (h q (Qx _ hq));refine cS.mpr λz=>?_;rw[Qt]at z;rcases Qp.mp z with z|z
  ·exact h1 z
  have:q.1=p.1:=by simpa using z
  exact nd.1 (by rw[<-this];exact Qj.mpr ⟨q,hq,rfl⟩)
theorem wP (xs:List Str) (bs:F4):cO ((xs.zip bs).map λp=>(p.1,V.ref p.2))=fdK (aA xs) bs:=by
 unfold cO fdK aA;rw[List.zip_map_left,QT,QT];rfl
theorem AX {bs:F4} (nd:xs.Nodup):bH [] (cO ((xs.zip bs).map λp=>(p.1,V.ref p.2)))=fdK (aA xs) bs:=by
 rw[wP,gn _ _ (gR nd) (λ_ _=>rfl),List.nil_append]
def sO:Sp:=λvs H Q _=>∃(F:Addr) (ins:List Str) (gs:F5) (xs:List Str),vs=[.ref F]/\SD H F ins gs xs/\xs.Nodup/\xs.length<=2048/\(∀h∈xs,∀p∈au ins gs h,p.2∈xs)/\gs.length<=7 /\
 ∀(A:Addr) (bs:F4) (H':Hp),ao H H'->H A=none->H' A=some (.dK (fdK (aA xs) bs))->bs.length=xs.length->(∀(i:Nat) x b,xs[i]?=some x->bs[i]?=some b->H b=none/\H' b=some (.lst ((ahL (evs (au ins gs) xs) x).map V.str)))->Q (.ref A) H'
theorem yt {ins:List Str} (g7:gs.length<=7):∀ys:List Str,(evs (au ins gs) ys).length<=7*ys.length:=λys=>by
 unfold evs
 induction ys with
 | nil=>simp
 | cons y ys ih =>
 rw[List.flatMap_cons,Qk,Qa,QS];have:=ed ins gs y;omega
theorem yz (es:List (Str × (Str × Str))) (x:Str):(ahL es x).length<=es.length:=by unfold ahL;rw[Qa];exact List.length_filter_le _ _
theorem xm (es:List (Str × (Str × Str))) (y n h x:Str):ahL (es++[(y,(n,h))]) x=if x=y then ahL es x++[h] else ahL es x:=by
 rw[g_];by_cases c:x=y
 ·subst c;rw[QL rfl];congr 1;unfold ahL;simp
 rw[QI c];have:ahL [(y,n,h)] x=[]:=by unfold ahL;simp;exact λz=>c z.symm
 rw[this,List.append_nil]
section
theorem gP:FnScope ["found", "ahead", "here", "step"] ["found"] (aB (top 25)):=by fin2
theorem wn {f:Addr} {fd:FuncData} (Fu:Fun K "standings_ahead" "standings_ahead" (top 25) f fd) (T:Txt K mg TT):FnOk P w K mg base CX0 1 f fd ["found"] sO:=by
 have S:=gP;refine Fu.ok S (by room) (λcdv A outer s H vs Q E hr h=>?_);obtain⟨F,ins,gs,xs,rfl,sd,nd,few,cl,g7,k⟩:=h;have hu:=du hr;refine'{?_,?bb,?_}
 case bb =>
  walk_at "b";exact aF 1 S.nd (dA rfl (by rfl) T.n_dict (aa (rg (dq "here" [] (eZ (pv 0)) (λ_ _ _ _=>(bq (aa (pv 0) (aa (aY ad) ad se_lst) ai))))) ad));refine' rc ?_;rotate_left 1;walk_at "f";exact(eZ (pv 0));exact(bO 2 S.nd);walk_at "p";walk_at "f";exact(bx (bG hu (pv 0) (pv 2)));exact(bO 3 S.nd);walk_at "p";exact(bB (cL QB QC QE a7 (bG hu (pv 1) (aD bg (pv 3) ae)) (aa (pv 2) ad ai)));exact(aK (pv 1))
 x_go;obtain⟨as,r,las,sts⟩:=id sd;have lk:(fdK (aA xs) as).length=xs.length:=by unfold fdK aA;simp[las]
 kt_k;refine bp (gS (ak (wI r trivial λo=>?_)));have hF2:upd H F (.frz o (.dK (fdK (aA xs) as))) F=some (.frz o (.dK (fdK (aA xs) as))):=af;have bk:∀{H':Hp},ao (upd H F (.frz o (.dK (fdK (aA xs) as)))) H'->ao H (back H F H'):=λS=>eF r S
 have fr2:∀{b},upd H F (.frz o (.dK (fdK (aA xs) as))) b=none->H b=none:=λ{b} e=>by
  by_cases c:b=F
  ·rw[c,hF2]at e;cases e
  rw[am c]at e;exact e
 generalize upd H F (.frz o (.dK (fdK (aA xs) as)))=H2 at *;refine bR (gk (aj rfl {F,o,_,rfl,hF2,λL hL=>?_}));let I26:IvC:=λm H' ys=>∃bs ts:F4,bs.length=m/\ts.length=m/\ys=ts.map V.ref/\ao H2 H'/\H' L=some (.lst ys)/\bs.Nodup/\(∀b∈bs,H2 b=none/\b≠L/\H' b=some (.lst []))/\∀(i:Nat) t x b,ts[i]?=some t->xs[i]?=some x->bs[i]?=some b->H' t=some (.tup [.str x,.ref b])
 refine iT I26
  {[],[],rfl,rfl,rfl,ag hL,af,by simp,λb hb=>(nomatch hb),λi t x b e=>(nomatch e)} (λm H' ys ⟨bs,ts,p⟩=>{p.2.2.2.2.1,p.2.2.2.1 _ _ hF2}) (λm k' v H' ys e p=>?_) (λH' ys p=>?_)
 ·obtain⟨bs,ts,lb,lt,rfl,Sm,hd,ndb,hbs,hts⟩:=p;obtain⟨x,b0,e1,e2,rfl,rfl⟩:=kS e;have hm:m<xs.length:=(Qe.mp e1).1;refine az {by repeat' (first|exact trivial|refine{rfl,?_}),i_yes (b9 ?_)};refine i_tup (ak (aj rfl (ak (cA (aC {by simp[sizeLine],λb hb=>aC {by simp[sizeLine],λt ht=>?_} })))));have S3:ao H' (upd H' b (.lst [])):=ag hb;have S4:ao (upd H' b (.lst [])) (upd (upd H' b (.lst [])) t (.tup [kV (Sum.inr x),.ref b])):=ag ht;have b4:upd (upd H' b (.lst [])) t (.tup [kV (Sum.inr x),.ref b]) b=some (.lst []):=S4 _ _ af;have t4:upd (upd H' b (.lst [])) t (.tup [kV (Sum.inr x),.ref b]) t=some (.tup [.str x,.ref b]):=af;have tL:t≠L:=λz=>by rw[z,S3 _ _ hd]at ht;cases ht
  have bL:b≠L:=λz=>by rw[z,hd]at hb;cases hb
  have S34:=S3.trans S4;generalize upd (upd H' b (.lst [])) t (.tup [kV (Sum.inr x),.ref b])=H4 at *;have hL4:=S34 _ _ hd;refine b8.mk hL4 (by rw[lk];exact hm) (by rw[Qa];omega) {bs++[b],ts++[t],by simp[lb],by simp[lt],by simp,aN (Sm.trans S34) hL,af,?_,λc hc=>?_,λi t' x' b' h1 h2 h3=>?_}
  ·refine Xz.mpr {ndb,by simp,λc hc y hy z=>?_};have:y=b:=by simpa using hy
   have:=(hbs c hc).2.2;rw[z,‹y=b›,hb]at this;cases this
  ·rcases Qp.mp hc with hc|hc
   ·obtain⟨q1,q2,q3⟩:=hbs c hc;exact{q1,q2,by rw[am q2];exact S34 _ _ q3}
   rw[Qr]at hc;subst hc;exact{ao.free Sm hb,bL,by rw[am bL];exact b4}
  by_cases ci:i<m
  ·rw[QF ⋯]at h1 h3;have q:=hts i t' x' b' h1 h2 h3;rw[am (λz=>by rw[z,hd]at q;cases q)];exact S34 _ _ q
  rw[QH ⋯]at h1 h3
  have ei:i=m:=by
   have:=(Qe.mp h1).1;simp at this;omega
  subst ei;rw[lt,Nat.sub_self]at h1;rw[lb,Nat.sub_self]at h3;rw[e1]at h2;cases h1;cases h2;cases h3;rw[am tL];exact t4
 rw[lk]at p;obtain⟨bs,ts,lb,lt,rfl,Sm,hd,ndb,hbs,hts⟩:=p;refine{Sm _ _ hF2,aC ?_};have LF:L≠F:=λz=>by rw[z,hF2]at hL;cases hL
 have bkx:∀{b u},H' b=some u->b≠F->back H F H' b=some u:=λe n=>by rw[bY n];exact e
 have SB:=bk Sm;have hbF:∀b∈bs,b≠F:=λb hb z=>by have:=(hbs b hb).1;rw[z,hF2]at this;cases this
 have hb0:∀b∈bs,H b=none:=λb hb=>fr2 (hbs b hb).1;have hb3:∀b∈bs,back H F H' b=some (.lst []):=λb hb=>bkx (hbs b hb).2.2 (hbF b hb);refine{L,ts.map V.ref,(xs.zip bs).map λp=>(p.1,V.ref p.2),rfl,SqL.of (bkx hd LF),by rw[Qa];omega,?_,λd hd3=>?_}
 ·refine e_ (by simp[lt,lb]) λi v p e1 e2=>?_;rw[Qi]at e1 e2
  cases q1:ts[i]? with
  | none=>rw[q1]at e1;cases e1
  | some t =>
  rw[q1]at e1;cases e1
  cases q2:(xs.zip bs)[i]? with
  | none=>rw[q2]at e2;cases e2
  | some xb =>
  rw[q2]at e2;cases e2;obtain⟨a1,a2⟩:=List.getElem?_zip_eq_some.mp q2;have q:=hts i t xb.1 xb.2 q1 a1 a2;exact{t,rfl,bkx q λz=>by rw[z,Sm _ _ hF2]at q;cases q}
 rw[AX nd];refine az ?_;generalize hE:upd (back H F H') d _=H3;obtain⟨S3,q3⟩:=aJ hd3 hE;clear hE;have SH3:=SB.trans S3;have d0:H d=none:=ao.free SB hd3;have hb4:∀b∈bs,H3 b=some (.lst []):=λb hb=>S3 _ _ (hb3 b hb);have r3:=nU SH3 r;have sts3:∀(i:Nat) h b,xs[i]?=some h->as[i]?=some b->bA H3 b (cN (au ins gs h)):=λi h b e1 e2=>(sts i h b e1 e2).same SH3
 have asb:∀(i:Nat) h b,xs[i]?=some h->as[i]?=some b->b∉bs:=λi h b e1 e2 hb=>by
  obtain⟨vs,q,_⟩:=sts i h b e1 e2;rw[hb0 b hb]at q;cases q
 clear hbs hts hd hb3;kt_k;refine vG (a:=F) (u:=.dK (fdK (aA xs) as)) r3 trivial λob=>?_;have sts4:∀(i:Nat) h b,xs[i]?=some h->as[i]?=some b->bA (upd H3 F (.frz ob (.dK (fdK (aA xs) as)))) b (cN (au ins gs h)):=λi h b e1 e2=>mw r3 (sts3 i h b e1 e2);have h4:∀b,b≠F->upd H3 F (.frz ob (.dK (fdK (aA xs) as))) b=H3 b:=λb n=>am n;have hF4:upd H3 F (.frz ob (.dK (fdK (aA xs) as))) F=some (.frz ob (.dK (fdK (aA xs) as))):=af
 have dF:d≠F:=λz=>by
  obtain⟨u,hu⟩:=jv r;rw[z,hu]at d0;cases d0
 generalize upd H3 F (.frz ob (.dK (fdK (aA xs) as)))=H4 at *;have hd4:H4 d=some (.dK (fdK (aA xs) bs)):=by rw[h4 d dF];exact q3
 have Fb:F∉bs:=λhb=>hbF F hb rfl;have db:d∉bs:=λhb=>by rw[hb4 d hb]at q3;cases q3
 let AH:=λ(H':Hp) (es:List (Str × (Str × Str)))=>∀(i:Nat) x b,xs[i]?=some x->bs[i]?=some b->H' b=some (.lst ((ahL es x).map V.str));refine s_for (gk (aj rfl {F,ob,_,rfl,hF4,?_}));let I27:IvF:=λj σ' H'=>∃(x2 x3:Option V),σ'=[some (.ref F),some (.ref d),x2,x3]/\(∀b u,H4 b=some u->b∉bs->H' b=some u)/\AH H' (evs (au ins gs) (xs.take j))
 refine kQ I27
  {_,_,rfl,λb u e _=>e,λi x b _ e2=>by rw[h4 b (hbF b (Qg e2))];exact hb4 b (Qg e2)} (λj σ' H' _ pv=>?_) (λj ky vl σ' H' hj pv=>?_) (λσ' H' pv=>?_)
 ·obtain⟨_,_,_,o2,_⟩:=pv;exact o2 F _ hF4 Fb
 ·obtain⟨x2,x3,rfl,o2,ah⟩:=pv;obtain⟨h,b,hx,hb,rfl,rfl⟩:=kS hj;obtain⟨vs,hvs,pvs⟩:=sts4 j h b hx hb;have bb:=asb j h b hx hb;have hxm:=Qg hx;have dg:cK H' F (kV (Sum.inr h)) (some (.ref b)):=.inl {_,Sum.inr h,.inr {ob,o2 F _ hF4 Fb},rfl,(eL (gR nd) hj).symm};refine az ?_;refine s_for (s_list (i_dget (aj rfl (aj rfl {F,_,rfl,dg,b,rfl,{_,SqL.of (o2 _ _ hvs bb)},?_}))));let I28:IvF:=λi σ' H'=>∃(x3:Option V),σ'=[some (.ref F),some (.ref d),some (.str h),x3]/\(∀b u,H4 b=some u->b∉bs->H' b=some u)/\AH H' (evs (au ins gs) (xs.take j)++((au ins gs h).take i).map λp=>(p.2,(p.1,h)))
  refine dO (xs:=vs) I28
   {_,rfl,o2,by simpa using ah} (λi σ' H' _ pv=>?_) (λi v σ' H' hv pv=>?_) (λσ' H' pv=>?_)
  ·obtain⟨_,_,o3,_⟩:=pv;exact SqL.of (o3 _ _ hvs bb)
  ·obtain⟨x3,rfl,o3,ah3⟩:=pv;obtain⟨p,b2,hp,rfl,hb2⟩:=gO pvs hv;have hb2H:H4 b2=some (.tup [.str p.1,.str p.2]):=hb2;have b2b:b2∉bs:=λhb=>by rw[h4 b2 (hbF b2 hb),hb4 b2 hb]at hb2H;cases hb2H
   have hb3:H' b2=some (.tup [.str p.1,.str p.2]):=o3 _ _ hb2 b2b;have hpm:p∈au ins gs h:=Qg hp;obtain⟨i2,hi2,ei2⟩:=Qo.mp (cl h hxm p hpm);have e1:xs[i2]?=some p.2:=by rw[Qc hi2,ei2]
   obtain⟨c,e2⟩:∃c,bs[i2]?=some c:={_,Qc ⋯};have hc:=ah3 i2 p.2 c e1 e2;have cm:=Qg e2;have dg2:cK H' d (.str p.2) (some (.ref c)):=dZ (.inl (o3 _ _ hd4 db)) nd e1 e2
   have hev:evs (au ins gs) (xs.take j)++((au ins gs h).take (i+1)).map (λp=>(p.2,(p.1,h)))=(evs (au ins gs) (xs.take j)++((au ins gs h).take i).map λp=>(p.2,(p.1,h)))++[(p.2,(p.1,h))]:=by
    rw[QV,hp,Qt,Xa];rfl
   have lev:(evs (au ins gs) (xs.take j)++((au ins gs h).take i).map λp=>(p.2,(p.1,h))).length<=7*2048+7:=by
    rw[Qk,Qa,Qv];have h1:=yt (ins:=ins) g7 (xs.take j);have h2:=ed ins gs h;rw[Qv]at h1;omega
   refine az ?_;have la:=yz (evs (au ins gs) (xs.take j)++((au ins gs h).take i).map λp=>(p.2,(p.1,h))) p.2;refine s_drop (i_bm (i_dget (aj rfl (aV (aj rfl (i_c (i_ixT hb3 rfl {d,_,rfl,dg2,i_tyL hc,ak (aj rfl (aC (dr hc (by rw[Qa];omega) ?_)))})))))));refine{_,rfl,λb' u e n=>by rw[am (λz=>n (by rw[z];exact cm))];exact o3 b' u e n,λi3 x3 b3 e3 e4=>?_};rw[hev,xm];by_cases cx:x3=p.2
   ·subst cx;have:i3=i2:=(List.getElem?_inj (Qe.mp e3).1 nd).mp (by rw[e3,e1]);subst this;rw[e2]at e4;cases e4;rw[QL rfl,af,Qt];rfl
   rw[QI cx,am (λz=>cx ?_)]
   ·exact ah3 i3 x3 b3 e3 e4
   subst z;have:i3=i2:=(List.getElem?_inj (Qe.mp e4).1 ndb).mp (by rw[e4,e2]);subst this;rw[e3]at e1;cases e1;rfl
  obtain⟨x3,rfl,o3,ah3⟩:=pv;refine{_,_,rfl,o3,?_};have lvs:vs.length=(au ins gs h).length:=by have:=aQ pvs;unfold cN at this;rwa [Qa]at this
  rw[lvs,Qw (Qh _)]at ah3
  have e:evs (au ins gs) (xs.take (j+1))=evs (au ins gs) (xs.take j)++(au ins gs h).map λp=>(p.2,(p.1,h)):=by
   unfold evs;rw[QV,hx,List.flatMap_append];simp
  rw[e];exact ah3
 obtain⟨x2,x3,rfl,o2,ah⟩:=pv;rw[lk,Qw (Qh _)]at ah;refine{o2 F _ hF4 Fb,?_};refine ck (aj rfl (k d bs _ (λb u e=>?_) d0 ?_ lb λi x b e1 e2=>?_))
 ·by_cases cF:b=F
  ·subst cF;rw[gy];exact SH3 _ _ e
  rw[bY cF];exact o2 b u (by rw[h4 b cF];exact SH3 _ _ e) λhb=>by rw[hb0 b hb]at e;cases e
 ·rw[bY dF];exact o2 _ _ hd4 db
 have hb:=Qg e2;exact{hb0 b hb,by rw[bY (hbF b hb)];exact ah i x b e1 e2}
end
def ff (ps:List (Str × Nat)):List (Key × V):=bu (ps.map λp=>(p.1,(p.2:Int)))
def eK (xs:List Str) (f:Str->Int):List (Key × V):=xs.map λx=>(Sum.inr x,V.int (f x))
theorem uP (xs:List Str) (f:Str->Int):(eK xs f).map (·.1)=aA xs:=by unfold eK aA;rw[QT];rfl
theorem iu {xs:List Str} (f:Str->Int) {b:Str}:∀{xs:List Str},b∈xs->bh (eK xs f) (Sum.inr b)=some (.int (f b))
 | [],h=>nomatch h
 | x::xs,h=>by
  by_cases c:x=b
  ·subst c;exact bS rfl
  exact(bU (λz=>c (Sum.inr.inj z))).trans (iu (xs:=xs) f ((QO.mp h).resolve_left λz=>c z.symm))
theorem wE {xs:List Str} (f:Str->Int) {b:Str} (v:Int) (h:b∈xs):cr (eK xs f) (Sum.inr b) (.int v)=eK xs λx=>if x=b then v else f x:=by
 unfold cr;rw[c6,iu (xs:=xs) f h,Option.isSome_some,QL rfl];unfold eK;rw[QT];refine List.map_congr_left λx _=>?_;by_cases c:x=b
 ·subst c;simp
 simp[c]
theorem iR (ps:List (Str × Nat)):(ff ps).map (·.1)=aA (ps.map (·.1)):=by unfold ff bu aA;rw[QT,QT,QT];rfl
theorem fZ (nd:xs.Nodup):(aA xs).Nodup:=by unfold aA;exact List.Pairwise.map _ (λa b h z=>h (Sum.inr.inj z)) nd
variable {ps:List (Str × Nat)}
theorem wC (nd:(ps.map (·.1)).Nodup) {p:Str × Nat} (h:p∈ps):bh (ff ps) (Sum.inr p.1)=some (.int p.2):=by
 obtain⟨i,hi,e⟩:=Qo.mp h;refine eL (i:=i) (by rw[iR];exact fZ nd) ?_;unfold ff bu;rw[QT,Qi,Qc hi,e];rfl
theorem fe:bh (ff ps) (Sum.inr x)=none↔x∉ps.map (·.1):=by
 rw[cS,iR];unfold aA;refine not_congr {λh=>?_,λh=>Qj.mpr ⟨x,h,rfl⟩};obtain⟨y,hy,e⟩:=Qj.mp h;cases e;exact hy
theorem wD (h:x∉ps.map (·.1)):cr (ff ps) (Sum.inr x) (.int n)=ff (ps++[(x,n)]):=by
 rw[ee _ (fe.mpr h)];unfold ff bu;rw[Qt,Qt];rfl
def xn (H:Hp) (ts:F4) (xs:List Str) (f:Str->Int):Prop:=∀(i:Nat) t x,ts[i]?=some t->xs[i]?=some x->H t=some (.tup [.str x,.int (f x)])
theorem pV {f:Str->Int} (lt:ts.length=m) (h:xn H' ts xs f) (S:ao H' H4) (hd:H' L=some (.lst ys)) (ht:H4 t=some (.tup [.str x,.int (f x)])) (e1:xs[m]?=some x) (tL:t≠L):xn (upd H4 L o) (ts++[t]) xs f:=λi t' x' h1 h2=>by
 by_cases ci:i<m
 ·rw[QF ⋯]at h1;have q:=h i t' x' h1 h2;rw[am (λz=>by rw[z,hd]at q;cases q)];exact S _ _ q
 rw[QH ⋯]at h1
 have ei:i=m:=by
  have:=(Qe.mp h1).1;simp at this;omega
 subst ei;rw[lt,Nat.sub_self]at h1;rw[e1]at h2;cases h1;cases h2;rw[am tL];exact ht
theorem kb {f:Str->Int} (lt:ts.length=xs.length) (h:xn H ts xs f):Paired (qL H) (ts.map V.ref) (xs.map λx=>(x,V.int (f x))):=by
 refine e_ (by simp[lt]) λi v p e1 e2=>?_;rw[Qi]at e1 e2
 cases q1:ts[i]? with
 | none=>rw[q1]at e1;cases e1
 | some t =>
 rw[q1]at e1;cases e1
 cases q2:xs[i]? with
 | none=>rw[q2]at e2;cases e2
 | some x =>
 rw[q2]at e2;cases e2;exact{t,rfl,h i t x q1 q2}
theorem qy (nd:xs.Nodup) (f:Str->Int):bH [] (cO (xs.map λx=>(x,V.int (f x))))=eK xs f:=by
 have e:cO (xs.map λx=>(x,V.int (f x)))=eK xs f:=by unfold cO eK;rw[QT];rfl
 rw[e,gn _ _ (by rw[uP];exact fZ nd) (λ_ _=>rfl),List.nil_append]
def qV:Sp:=λvs H Q _=>∃(F:Addr) (ins:List Str) (gs:F5) (z:Str) (xs:List Str),vs=[.ref F]/\SD H F ins gs xs/\Met ins gs z xs/\NetOk ins gs /\
 ∀(N:Addr) (ps:List (Str × Nat)) (H':Hp),ao H H'->H N=none->H' N=some (.dK (ff ps))->NumOk ins gs xs ps->Q (.ref N) H'
section
theorem gQ:FnScope ["found", "ahead", "left", "waiting", "numbers", "at", "here", "before"] ["found"] (aB (top 26)):=by fin2
theorem xY {f:Addr} {fd:FuncData} (Fu:Fun K "most_switchings" "most_switchings" (top 26) f fd) (T:Txt K mg TT) (f_standings_ahead:Fn P w K mg base "standings_ahead" ["found"] 1 sO) (f_rests_in:Fn P w K mg base "rests_in" ["steps"] 1 eY):FnOk P w K mg base CX0 2 f fd ["found"] qV:=by
 have S:=gQ;refine Fu.ok S (by room) (λcdv A outer s H vs Q E hr h=>?_);obtain⟨F,ins,gs,z,xs,rfl,sd,met,ok,k⟩:=h;have hu:=du hr;refine'{?_,?bb,?_}
 case bb =>
  walk_at "b";exact aF 1 S.nd (aS f_standings_ahead hr (aa (pv 0) ad ai));exact aF 2 S.nd (dA rfl (by rfl) T.n_dict (aa (rg (dq "here" [("found", 0)] (eZ (pv 0)) (λ_ _ _ _=>(bq (aa (pv 0) (aa (aE (dJ (K:=K) rfl) (by rfl) T.n_len QJ (aa (bG hu (pv 1) (pv 0)) ad)) ad se_call) ai))))) ad));exact aF 3 S.nd (aS f_rests_in hr (aa (pv 0) ad ai));exact aF 4 S.nd (dA rfl (by rfl) T.n_dict (aa (dq "rest" [] (bx (pv 3)) (λ_ _ _ _=>(bq (aa (pv 0) (aa ae ad aL) ai)))) ad));exact aF 5 S.nd ae;refine' fQ PassesOwn.never ?_ ?_;rotate_left 2;exact(aM kz (pv 5) (aE aI (by rfl) T.n_len QJ (aa (pv 3) ad ai)) (aP _));walk_at "p";exact aF 6 S.nd (aD aH (pv 3) (pv 5));walk_at "f";exact(bx (bG hu (pv 1) (pv 6)));exact(bO 7 S.nd);walk_at "p";exact(xG hu (pv 2) (pv 7) ae AS (by intros;rfl));exact(aM cH (bG hu (pv 2) (pv 7)) ae (aP _));exact(gq hu (pv 4) (pv 7) (ap aO (bG hu (pv 4) (pv 6)) ae) rfl);exact(bB (cL QB QC QE a7 (pv 3) (aa (pv 7) ad ai)));exact(vM (i:=5) S.nd rfl (by z_go) ae wH);exact(aK (pv 4))
 x_go;have few:=met.few ok;have nd:=met.nd;have cl:∀h∈xs,∀p∈au ins gs h,p.2∈xs:=λh hh p hp=>met.closed hh hp;lk;refine{F,ins,gs,xs,rfl,sd,nd,few,cl,ok.g7,λA bs H1 S1 hA0 hA lb hbs=>?_};obtain⟨as,r,las,sts⟩:=sd.same S1;have lk:(fdK (aA xs) as).length=xs.length:=by unfold fdK aA;simp[las]
 refine az ?_;kt_k;refine bp (gS (ak (wI r trivial λo=>?_)));have hF2:upd H1 F (.frz o (.dK (fdK (aA xs) as))) F=some (.frz o (.dK (fdK (aA xs) as))):=af;have bk:∀{H':Hp},ao (upd H1 F (.frz o (.dK (fdK (aA xs) as)))) H'->ao H1 (back H1 F H'):=λS=>eF r S;have sts2:∀(i:Nat) x b,xs[i]?=some x->as[i]?=some b->bA (upd H1 F (.frz o (.dK (fdK (aA xs) as)))) b (cN (au ins gs x)):=λi x b e1 e2=>mw r (sts i x b e1 e2);generalize upd H1 F (.frz o (.dK (fdK (aA xs) as)))=H2 at *;refine bR (gk (aj rfl {F,o,_,rfl,hF2,λL hL=>?_}));let I29:IvC:=λm H' ys=>∃ts:F4,ts.length=m/\ys=ts.map V.ref/\ao H2 H'/\H' L=some (.lst ys)/\xn H' ts xs λx=>((au ins gs x).length:Int)
 refine iT I29
  {[],rfl,rfl,ag hL,af,λi t x e=>(nomatch e)} (λm H' ys ⟨ts,p⟩=>{p.2.2.2.1,p.2.2.1 _ _ hF2}) (λm k' v H' ys e p=>?_) (λH' ys p=>?_)
 ·obtain⟨ts,lt,rfl,Sm,hd,hts⟩:=p;obtain⟨x,b,e1,e2,rfl,rfl⟩:=kS e;obtain⟨vs,hvs,pvs⟩:=(sts2 m x b e1 e2).same Sm;have hm:m<xs.length:=(Qe.mp e1).1;have lv:vs.length=(au ins gs x).length:=by have:=aQ pvs;unfold cN at this;rwa [Qa]at this
  refine az {by repeat' (first|exact trivial|refine{rfl,?_}),i_yes (b9 ?_)};refine i_tup (ak (aj rfl (ak (dN (ak (i_dget (aj rfl (aj rfl {F,_,rfl,dZ (.inr {o,Sm _ _ hF2}) nd e1 e2,aC {b,vs,rfl,.inl (SqL.of hvs),aC {by simp[sizeLine],λt ht=>?_} } }))))))));have S3:ao H' (upd H' t (.tup [kV (Sum.inr x),.int vs.length])):=ag ht;have t3:upd H' t (.tup [kV (Sum.inr x),.int vs.length]) t=some (.tup [.str x,.int ((au ins gs x).length:Int)]):=by rw[af,lv];rfl
  have tL:t≠L:=λz=>by rw[z,hd]at ht;cases ht
  generalize upd H' t (.tup [kV (Sum.inr x),.int vs.length])=H4 at *;exact b8.mk (S3 _ _ hd) (by rw[lk];exact hm) (by rw[Qa];omega) {ts++[t],by simp[lt],by simp,aN (Sm.trans S3) hL,af,pV lt hts S3 hd t3 e1 tL}
 rw[lk]at p;obtain⟨ts,lt,rfl,Sm,hd,hts⟩:=p;refine{Sm _ _ hF2,aC ?_};have LF:L≠F:=λz=>by rw[z,hF2]at hL;cases hL
 have bkx:∀{b u},H' b=some u->b≠F->back H1 F H' b=some u:=λe n=>by rw[bY n];exact e
 have SB:=bk Sm;refine{L,ts.map V.ref,_,rfl,SqL.of (bkx hd LF),by rw[Qa];omega,kb lt λi t x e1 e2=>bkx (hts i t x e1 e2) (λz=>by have q:=hts i t x e1 e2;rw[z,Sm _ _ hF2]at q;cases q),λLf hLf=>?_};rw[qy nd];generalize hE:upd (back H1 F H') Lf _=H3;obtain⟨S3,hLf3⟩:=aJ hLf hE;clear hE;have S13:=SB.trans S3;have Lf1:H1 Lf=none:=ao.free SB hLf;clear hts hd bkx;lk;obtain⟨as3,r3,las3,sts3⟩:=(sd.same S1).same S13;refine{F,xs,as3,λh=>(au ins gs h).length,rfl,r3,las3,few,nd,λi x b e1 e2=>?_,λWt ss H4 S4 hWt pm so hW4=>?_}
 ·obtain⟨vs,h1,h2⟩:=sts3 i x b e1 e2;exact{vs,h1,by have:=aQ h2;unfold cN at this;rwa [Qa]at this}
 have rnd:(ss.filter λh=>decide ((au ins gs h).length=0)).Nodup:=(pm.nodup_iff.mpr nd).filter _
 have rmem:∀x,x∈(ss.filter λh=>decide ((au ins gs h).length=0))↔x∈xs/\au ins gs x=[]:=λx=>by
  rw[List.mem_filter,pm.mem_iff,XC,Xl]
 generalize (ss.filter λh=>decide ((au ins gs h).length=0))=rs at *;have c0:=Cnt.start (ins:=ins) (gs:=gs) (xs:=xs) rnd rmem;have lrs:rs.length<=xs.length:=by have:=c0.few;rwa [Qa]at this
 clear so pm;refine az ?_;kt_k;refine bp (gS (ak (bR (s_list (aj rfl {Wt,rfl,{_,SqL.of hW4},λL2 hL2=>?_})))));let I30:IvC:=λm H' ys=>∃ts:F4,ts.length=m/\ys=ts.map V.ref/\ao H4 H'/\H' L2=some (.lst ys)/\xn H' ts rs λ_=>0
 refine cg (xs:=rs.map V.str) I30
  {[],rfl,rfl,ag hL2,af,λi t x e=>(nomatch e)} (λm H' ys ⟨ts,p⟩=>{p.2.2.2.1,SqL.of (p.2.2.1 _ _ hW4)}) (λm v H' ys e p=>?_) (λH5 ys p=>?_)
 ·obtain⟨ts,lt,rfl,Sm,hd,hts⟩:=p;rw[Qi]at e
  cases ex:rs[m]? with
  | none=>rw[ex]at e;cases e
  | some x =>
  rw[ex]at e;cases e;have hm:m<rs.length:=(Qe.mp ex).1;refine az {by repeat' (first|exact trivial|refine{rfl,?_}),i_yes (b9 ?_)};refine i_tup (ak (aj rfl (ak (i_c (aC {by simp[sizeLine],λt ht=>?_})))));have S3:ao H' (upd H' t (.tup [.str x,.int 0])):=ag ht;have t3:upd H' t (.tup [.str x,.int 0]) t=some (.tup [.str x,.int 0]):=af;have tL:t≠L2:=λz=>by rw[z,hd]at ht;cases ht
  generalize upd H' t (.tup [.str x,.int 0])=H6 at *;exact b8.mk (S3 _ _ hd) (by rw[Qa];exact hm) (by rw[Qa];omega) {ts++[t],by simp[lt],by simp,aN (Sm.trans S3) hL2,af,pV (f:=λ_=>0) lt hts S3 hd t3 ex tL}
 rw[Qa]at p;obtain⟨ts,lt,rfl,Sm,hd,hts⟩:=p;refine aC {L2,ts.map V.ref,_,rfl,SqL.of hd,by rw[Qa];omega,kb (f:=λ_=>0) lt hts,λN hN=>?_};rw[qy rnd];ctx_has H5 N H6 S6 hN6 aJ hN;have eN:eK rs (λ_=>0)=ff (rs.map λx=>(x,0)):=by unfold eK ff bu;rw[QT,QT];rfl
 rw[eN]at hN6;have S16:ao H1 H6:=S13.trans (S4.trans (Sm.trans S6));have hLf6:H6 Lf=some (.dK (eK xs λx=>((au ins gs x).length:Int))):=(S4.trans (Sm.trans S6)) _ _ hLf3
 have hW6:H6 Wt=some (.lst (((rs.map λx=>((x,0):Str × Nat)).map (·.1)).map V.str)):=by
  rw[show (rs.map λx=>((x,0):Str × Nat)).map (·.1)=rs by rw[QT];exact List.map_id _];exact(Sm.trans S6) _ _ hW4
 have Wt1:H1 Wt=none:=ao.free S13 hWt;have N1:H1 N=none:=ao.free (S13.trans (S4.trans Sm)) hN;have LW:Lf≠Wt:=λz=>by rw[z]at hLf3;rw[hWt]at hLf3;cases hLf3
 have LN:Lf≠N:=λz=>by rw[<-z,(S4.trans Sm) _ _ hLf3]at hN;cases hN
 have WN:Wt≠N:=λz=>by rw[<-z,Sm _ _ hW4]at hN;cases hN
 clear hts hd hW4 hLf3;lk;let I31:IvF:=λm U H'=>∃(a:Nat) (ps:List (Str × Nat)) (lf:Str->Int) (x6 x7:Option V),U=[some (.ref F),some (.ref A),some (.ref Lf),some (.ref Wt),some (.ref N),some (.int (a:Int)),x6,x7]/\m=xs.length+1-a/\a<=ps.length/\mf Lf Wt N H6 H'/\H' Lf=some (.dK (eK xs lf))/\H' Wt=some (.lst ((ps.map (·.1)).map V.str))/\H' N=some (.dK (ff ps))/\Cnt ins gs xs ps a [] lf
 refine{I31,
  {_,0,_,_,_,_,rfl,rfl,QG _,λb o e _ _ _=>e,hLf6,hW6,hN6,c0},?_}
 rintro m U H' ⟨a,ps,lf,x6,x7,rfl,rfl,ha,off,hLf',hW',hN',c⟩;lk;rw[Qa,Qa];by_cases cn:a<ps.length
 case neg =>
  refine ifF (QY ⋯) ?_;refine ck (aj rfl (k N ps H' (λb u e=>off b u (S16 _ _ (S1 _ _ e)) (λz=>?_) (λz=>?_) λz=>?_) (ao.free S1 N1) hN' (c.fin ⋯)))
  ·rw[z,ao.free S1 Lf1]at e;cases e
  ·rw[z,ao.free S1 Wt1]at e;cases e
  rw[z,ao.free S1 N1]at e;cases e
 refine ifT (Xc ⋯) ?_;have fewp:=c.few;let I32:IvJ:=λσ' H''=>∃(ps:List (Str × Nat)) (lf:Str->Int) (x6 x7:Option V),σ'=[some (.ref F),some (.ref A),some (.ref Lf),some (.ref Wt),some (.ref N),some (.int ((a+1:Nat):Int)),x6,x7]/\a+1<=ps.length/\mf Lf Wt N H6 H''/\H'' Lf=some (.dK (eK xs lf))/\H'' Wt=some (.lst ((ps.map (·.1)).map V.str))/\H'' N=some (.dK (ff ps))/\Cnt ins gs xs ps (a+1) [] lf;refine{I32,λσ' H'' h=>?_,?_}
 ·obtain⟨ps,lf,x6,x7,e1,e2,e3⟩:=h;exact{xs.length+1-(a+1),⋯,a+1,ps,lf,x6,x7,e1,rfl,e2,e3}
 obtain⟨here,eh⟩:∃here,ps[a]?=some here:={_,Qc cn};have hhere:=c.sub here (Qg eh);obtain⟨ix,hix,eix⟩:=Qo.mp hhere;have ex:xs[ix]?=some here.1:=by rw[Qc hix,eix]
 obtain⟨b,eb⟩:∃b,bs[ix]?=some b:={_,Qc ⋯};obtain⟨_,hb1⟩:=hbs ix here.1 b ex eb;have bL:b≠Lf:=λz=>by rw[z,Lf1]at hb1;cases hb1
 have bW:b≠Wt:=λz=>by rw[z,Wt1]at hb1;cases hb1
 have bN:b≠N:=λz=>by rw[z,N1]at hb1;cases hb1
 have AL:A≠Lf:=λz=>by rw[z,Lf1]at hA;cases hA
 have AW:A≠Wt:=λz=>by rw[z,Wt1]at hA;cases hA
 have AN:A≠N:=λz=>by rw[z,N1]at hA;cases hA
 have hb6:∀{H'':Hp},mf Lf Wt N H6 H''->H'' b=some (.lst ((ahL (evs (au ins gs) xs) here.1).map V.str)):=λo=>o b _ (S16 _ _ hb1) bL bW bN;have hA6:∀{H'':Hp},mf Lf Wt N H6 H''->H'' A=some (.dK (fdK (aA xs) bs)):=λo=>o A _ (S16 _ _ hA) AL AW AN;generalize hfull:ahL (evs (au ins gs) xs) here.1=full at *;kt_k;refine bp (aV (aj rfl (aj rfl (bd (v:=.str here.1) (SqL.of hW') (bQ (by rw[Qi,Qi,eh];rfl)) (az ?_)))));kt_k;refine s_for (s_list (i_dget (aj rfl (aj rfl {A,_,rfl,dZ (.inl (hA6 off)) nd ex eb,b,rfl,{_,SqL.of (hb6 off)},?_}))));let I33:IvF:=λi σ' H'=>∃(ps:List (Str × Nat)) (lf:Str->Int) (x7:Option V),σ'=[some (.ref F),some (.ref A),some (.ref Lf),some (.ref Wt),some (.ref N),some (.int (a:Int)),some (.str here.1),x7]/\mf Lf Wt N H6 H'/\H' Lf=some (.dK (eK xs lf))/\H' Wt=some (.lst ((ps.map (·.1)).map V.str))/\H' N=some (.dK (ff ps))/\ps[a]?=some here/\Cnt ins gs xs ps a (full.take i) lf
 refine dO (xs:=full.map V.str) I33
  {ps,lf,_,rfl,off,hLf',hW',hN',eh,by rw[List.take_zero];exact c} (λi σ' H' _ pv=>?_) (λi v σ' H' hv pv=>?_) (λσ' H' pv=>?_)
 ·obtain⟨_,_,_,_,o,_⟩:=pv;exact SqL.of (hb6 o)
 ·obtain⟨ps,lf,x7,rfl,o,hLf',hW',hN',eh,c⟩:=pv;rw[Qi]at hv
  cases ef:full[i]? with
  | none=>rw[ef]at hv;cases hv
  | some y =>
  rw[ef]at hv;cases hv;have hi:i<full.length:=(Qe.mp ef).1
  have es:full=full.take i++y::full.drop (i+1):=by
   rw[<-(Qe.mp ef).2,<-List.drop_eq_getElem_cons hi,QZ]
  have et:full.take (i+1)=full.take i++[y]:=by rw[QV,ef];rfl
  obtain⟨hy,ho,g1,g2⟩:=c.go met eh (hfull.trans es);rw[<-et]at g1 g2;have fewp:=c.few;refine az ?_;kt_k;have dgL:cK H' Lf (.str y) (some (.int (lf y))):=.inl {_,Sum.inr y,.inl hLf',rfl,(iu (xs:=xs) lf hy).symm};refine zX (aj rfl (aj rfl {Lf,_,rfl,dgL,i_c {_,_,rfl,rfl,_,iD.k (k:=Sum.inr y) hLf' (by unfold eK;rw[Qa];omega),?_} }));rw[wE (xs:=xs) lf _ hy];have hLf2:upd H' Lf (.dK (eK xs λx=>if x=y then lf y-1 else lf x)) Lf=some (.dK (eK xs λx=>if x=y then lf y-1 else lf x)):=af;have o2:mf Lf Wt N H6 (upd H' Lf (.dK (eK xs λx=>if x=y then lf y-1 else lf x))):=λb u e h1 h2 h3=>by rw[am h1];exact o b u e h1 h2 h3
  have hW2:upd H' Lf (.dK (eK xs λx=>if x=y then lf y-1 else lf x)) Wt=some (.lst ((ps.map (·.1)).map V.str)):=by rw[am LW.symm];exact hW'
  have hN2:upd H' Lf (.dK (eK xs λx=>if x=y then lf y-1 else lf x)) N=some (.dK (ff ps)):=by rw[am LN.symm];exact hN'
  generalize upd H' Lf (.dK (eK xs λx=>if x=y then lf y-1 else lf x))=H7 at *;have dgL2:cK H7 Lf (.str y) (some (.int (lf y-1))):=.inl {_,Sum.inr y,.inl hLf2,rfl,by rw[iu (xs:=xs) _ hy,QL rfl]};refine s_if (i_test (aV (i_dget (aj rfl (aj rfl {Lf,_,rfl,dgL2,i_c (i_eq rfl {_,rfl,?_})})))));by_cases cz:lf y-1=0
  ·refine ifT (by rw[cz];rfl) ?_;have dgN:cK H7 N (.str here.1) (some (.int here.2)):=.inl {_,Sum.inr here.1,.inl hN2,rfl,(wC c.nd (Qg eh)).symm};kt_k;refine iI (aV (i_dget (aj rfl (aj rfl {N,_,rfl,dgN,i_c (cw (aj rfl (aj rfl {N,_,rfl,iD.k (k:=Sum.inr y) hN2 (by have:=congrArg List.length (iR ps);unfold aA at this;simp at this;omega),?_})))}))));rw[show ((here.2:Int)+1)=((here.2+1:Nat):Int) from rfl,wD ho];have hW3:upd H7 N (.dK (ff (ps++[(y,here.2+1)]))) Wt=some (.lst ((ps.map (·.1)).map V.str)):=by rw[am WN];exact hW2
   refine s_drop (i_bm (aj rfl {i_tyL hW3,ak (aj rfl (aC (dr hW3 (by rw[Qa,Qa];omega) ?_)))}));refine{ps++[(y,here.2+1)],_,_,rfl,λb u e h1 h2 h3=>by rw[am h2,am h3];exact o2 b u e h1 h2 h3,by rw[am LW,am LN];exact hLf2,by rw[af];simp,by rw[am WN.symm,af],by rw[QF (Qe.mp eh).1];exact eh,g1 cz}
  refine ifF (QY λz=>cz (V.int.inj z)) ?_;exact{ps,_,_,rfl,o2,hLf2,hW2,hN2,eh,g2 cz}
 obtain⟨ps,lf,x7,rfl,o,hLf',hW',hN',eh,c⟩:=pv;rw[Qa,Qw (Qh _),<-hfull]at c;refine{_,rfl,i_c {_,_,rfl,rfl,?_} };exact{ps,lf,_,_,by rw[show ((a+1:Nat):Int)=(a:Int)+1 from rfl];rfl,(Qe.mp eh).1,o,hLf',hW',hN',c.turn met eh}
end
section
variable {os ss rs:List Str} {x y w h a r r':Str}
theorem Run.trans {ps:List Str} (r:Run ins gs x os y) (q:Run ins gs y ps w):Run ins gs x (os++ps) w:=by
 induction r with
 | nil=>exact q
 | cons a b _ ih=>exact .cons a b (ih q)
theorem Run.rep (r:Run ins gs x os x):∀k,Run ins gs x (List.replicate k os).flatten x
 | 0=>.nil
 | k+1=>by rw[List.replicate_succ,List.flatten_cons];exact r.trans (r.rep k)
theorem Met.start (m:Met ins gs z xs):z∈xs:=Qg m.zero
theorem Met.runs (m:Met ins gs z xs) (r:Run ins gs x os y) (hx:x∈xs):y∈xs:=by
 induction r with
 | nil=>exact hx
 | cons a _ _ ih=>exact ih (m.closed hx a)
theorem Met.to (m:Met ins gs z xs) (hx:x∈xs):∃os,Run ins gs z os x:=by
 obtain⟨i,hi,e⟩:=Qo.mp hx;obtain⟨ns,p,_⟩:=m.path i x (by rw[Qc hi,e]);exact{ns,(m.run p).2}
theorem vN {p:Str × Str} (st:StOk (aq ins gs).length h) (hp:p∈au ins gs h):p.2.cps.toList.take ins.length=h.cps.toList.take ins.length:=by
 obtain⟨i,h1,h2,e,_⟩:=pi hp;rw[e,turn_list st (by rw[bZ];exact h2),List.take_append_of_le_length,List.take_take,Nat.min_eq_left h1];have:=st.len;have hl:h.cps.toList.length=h.cps.size:=Qs;rw[bZ]at this;rw[Qv];omega
theorem Met.pre (m:Met ins gs z xs) (hx:x∈xs):x.cps.toList.take ins.length=z.cps.toList.take ins.length:=by
 obtain⟨os,r⟩:=m.to hx;have st:=m.st z m.start;clear hx m
 induction r with
 | nil=>rfl
 | cons a b _ ih=>exact(ih b).trans (vN st a)
theorem Met.few7 (m:Met ins gs z xs) (ok:NetOk ins gs):xs.length<=128:=by
 have nd:(xs.map λx=>x.cps.toList.drop ins.length).Nodup:=by
  rw[List.Nodup,XJ];refine List.Pairwise.imp_of_mem (λ{a b} ha hb n e=>n ?_) m.nd
  have:a.cps.toList=b.cps.toList:=by
   rw[<-QZ ins.length a.cps.toList,<-QZ ins.length b.cps.toList,m.pre ha,m.pre hb,e]
  cases a;cases b;simpa using this
 have:=Bf.pigeon _ (oS gs.length) nd λl hl=>by
  obtain⟨x,hx,rfl⟩:=Qj.mp hl;have st:=m.st x hx;refine lC _ _ ?_ λc hc=>st.signs c (List.mem_of_mem_drop hc);rw[Q9,Qs,st.len,bZ];omega
 rw[Qa,lD]at this;have h2:2 ^ gs.length<=2 ^ 7:=Nat.pow_le_pow_right (by decide) ok.g7;have h3:(2:Nat) ^ 7=128:=by decide
 omega
variable {n:Nat}
theorem cY.calm {ps:List Str} (l:cY ins gs h n) (r:Run ins gs h os a) (q:Run ins gs a ps a):ps=[]:=by
 cases ps with
 | nil=>rfl
 | cons p ps =>
 have:=l.1 _ _ (r.trans (q.rep (n+1)));rw[Qk,yh,QS]at this;have:n+1<=(n+1)*(ps.length+1):=Nat.le_mul_of_pos_right _ ⋯;omega
theorem Run.seen (r:Run ins gs h os y):(∀a ps qs,Run ins gs h ps a->Run ins gs a qs a->qs=[])->∃as:List Str,as.length=os.length+1/\as.Nodup/\∀a∈as,∃ps,Run ins gs h ps a:=by
 induction r with
 | nil=>exact λ_=>{[_],rfl,by simp,λa ha=>by rw[Qr]at ha;rw[ha];exact{[],.nil} }
 | @cons z y w n os m st r ih =>
 intro c;obtain⟨as,h1,h2,h3⟩:=ih λa ps qs r1 r2=>c a (n::ps) qs (.cons m st r1) r2;refine{z::as,by simp[h1],Q4.mpr {λhz=>?_,h2},λa ha=>?_}
 ·obtain⟨ps,q⟩:=h3 z hz;exact nomatch (c z [] (n::ps) .nil (.cons m st q))
 rcases QO.mp ha with rfl|ha
 ·exact{[],.nil}
 obtain⟨ps,q⟩:=h3 a ha;exact{n::ps,.cons m st q}
theorem cY.lt (m:Met ins gs z xs) (l:cY ins gs z n) (r:Run ins gs z os y):os.length<xs.length:=by
 obtain⟨as,h1,h2,h3⟩:=r.seen λa ps qs r1 r2=>l.calm r1 r2
 have:=Bf.pigeon as xs h2 λa ha=>by
  obtain⟨ps,q⟩:=h3 a ha;exact m.runs q m.start
 omega
theorem cY.few (m:Met ins gs z xs) (ok:NetOk ins gs) (l:cY ins gs z n) (r:Run ins gs z os y):os.length<128:=QK (l.lt m r) (m.few7 ok)
theorem cY.stop (l:cY ins gs h n) (st:StOk (aq ins gs).length h):∃os y,Run ins gs h os y/\au ins gs y=[]:=by
 obtain⟨l1,os,y,r,e⟩:=l;refine{os,y,r,?_}
 cases q:au ins gs y with
 | nil=>rfl
 | cons p ps =>
 have hp:p∈au ins gs y:=by rw[q];simp
 have sy:StOk (aq ins gs).length y:=by
  clear e q hp l1
  induction r with
  | nil=>exact st
  | cons _ b _ ih=>exact ih b
 have:=l1 _ _ (r.snoc (n:=p.1) (w:=p.2) hp (hZ sy hp));rw[Qk,List.length_singleton]at this;omega
variable {ps:List (Str × Nat)}
theorem NumOk.on (m:Met ins gs z xs) (o:NumOk ins gs xs ps):∀(k:Nat) h,h∈xs->h∉ps.map (·.1)->∃os y,Run ins gs h os y/\os.length=k
 | 0,h,_,_=>{[],h,.nil,rfl}
 | k+1,h,hh,ho=>by
  obtain⟨p,hp,hn⟩:=o.out h hh ho;obtain⟨os,y,r,e⟩:=o.on m k p.2 (m.closed hh hp) hn;exact{p.1::os,y,.cons hp (m.st _ (m.closed hh hp)) r,by rw[QS,e]}
theorem NumOk.iff (m:Met ins gs z xs) (o:NumOk ins gs xs ps) (hh:h∈xs):h∈ps.map (·.1)↔∃n,∀os y,Run ins gs h os y->os.length<=n:=by
 refine{λhm=>?_,λ⟨n,l⟩=>Decidable.byContradiction λho=>?_}
 ·obtain⟨p,hp,rfl⟩:=Qj.mp hm;exact{p.2,(o.long p hp).1}
 obtain⟨os,y,r,e⟩:=o.on m (n+1) h hh ho;have:=l os y r;omega
def fq (ins:List Str) (gs:F5) (z r:Str):Prop:=∃xs,Met ins gs z xs/\(∀x,x∈xs/\au ins gs x=[]↔x=r)/\∃n,cY ins gs z n
theorem fq.one (a:fq ins gs z r) (b:fq ins gs z r'):r=r':=by
 obtain⟨xs,m,h,_⟩:=a;obtain⟨ys,m',h',_⟩:=b;have:=m.one m';subst this;exact(h' r).mp ((h r).mpr rfl)
theorem NumOk.long_of (m:Met ins gs z xs) (o:NumOk ins gs xs ps) (hh:h∈xs):h∈ps.map (·.1)↔∃n,cY ins gs h n:=by
 refine{λhm=>?_,λ⟨n,l⟩=>(o.iff m hh).mpr ⟨n,l.1⟩};obtain⟨p,hp,rfl⟩:=Qj.mp hm;exact{p.2,o.long p hp}
theorem mC (m:Met ins gs z xs) (pm:ss.Perm xs):(ss.filter λh=>decide ((au ins gs h).length=0)).Nodup/\∀x,x∈(ss.filter λh=>decide ((au ins gs h).length=0))↔x∈xs/\au ins gs x=[]:=by
 refine{(pm.nodup_iff.mpr m.nd).filter _,λx=>?_};rw[List.mem_filter,pm.mem_iff,XC,Xl]
theorem ut {α:Type} {rs:List α} {r:α} (nd:rs.Nodup) (h:∀x,x∈rs↔x=r):rs=[r]:=by
 cases rs with
 | nil=>exact absurd ((h r).mpr rfl) (by simp)
 | cons a t =>
 have ea:=(h a).mp (by simp);subst ea
 cases t with
 | nil=>rfl
 | cons b t =>
 have eb:=(h b).mp (by simp);subst eb;simp at nd
theorem kA (nd:rs.Nodup) (h:∀x,x∈rs↔x=r):rs=[r]:=ut nd h
end
theorem D0 {T:String} {r:V->List V->Hp->VK->Prop} {to:TE} (q:to U H λx H1=>tyV K T x H1/\r x [] H1 Q):Bi K T r to U H Q:=q
theorem wy (ok:NetOk ins gs) (st:StOk (aq ins gs).length z):∃xs,Met ins gs z xs:=by
 have w11:(aq ins gs).length<=11:=by rw[bZ];have:=ok.i4;have:=ok.g7;omega
 have few:∀n,(Bf.bfs (nxK (stN ins gs)) (Sum.inr z) n).length<=2048:=λn=>fY w11 (Bf.cB n) λx hx=>fO st (Bf.cX n x hx)
 have:∀n,(∃k,(Bf.bfs (nxK (stN ins gs)) (Sum.inr z) k).length=k)\/n<(Bf.bfs (nxK (stN ins gs)) (Sum.inr z) n).length:=λn=>by
  induction n with
  | zero=>exact .inr (by simp[Bf.bfs])
  | succ n ih =>
  rcases ih with h|h
  ·exact .inl h
  have:=(Bf.lr (nx:=nxK (stN ins gs)) (s:=Sum.inr z) n).length_le;rcases Nat.lt_or_ge (n+1) (Bf.bfs (nxK (stN ins gs)) (Sum.inr z) (n+1)).length with l|l
  ·exact .inr l
  exact .inl {n+1,⋯}
 rcases this 2048 with⟨k,h⟩|h
 ·obtain⟨xs,_,_,m,_⟩:=rJ ok st h;exact⟨xs,m⟩
 have:=few 2048;omega
def WD (H:Hp) (F:Addr) (ins:List Str) (gs:F5) (ys:List Str) (ls:F4):Prop:=H F=some (.dK (fdK (aA ys) ls))/\ls.length=ys.length/\∀(i:Nat) y l,ys[i]?=some y->ls[i]?=some l->H l=some (.lst ((nxS ins gs y).map V.str))
def qU:Sp:=λvs H Q _=>∃a li lg ins gvs gs z,vs=[.ref a,.str z]/\NAt H a li lg ins gvs gs/\NetOk ins gs/\StOk (aq ins gs).length z /\
 ∀(F:Addr) (ys xs:List Str) (ls:F4) (H':Hp),ao H H'->H F=none->Met ins gs z xs->ys.Perm xs->WD H' F ins gs ys ls->Q (.ref F) H'
structure WI (ins:List Str) (gs:F5) (z:Str) (xs ys ln:List Str):Prop where
 nd:ys.Nodup
 sub:∀y,y∈ys\/y∈ln->y∈xs
 start:z∈ys\/z∈ln
 cl:∀y∈ys,∀p∈au ins gs y,p.2∈ys\/p.2∈ln
section
variable {ins:List Str} {gs:F5} {z:Str} {xs ys ln:List Str}
theorem WI.fin (m:Met ins gs z xs) (w:WI ins gs z xs ys []):ys.Perm xs:=by
 refine(List.perm_ext_iff_of_nodup w.nd m.nd).mpr λx=>{λh=>w.sub x (.inl h),λh=>?_};obtain⟨os,r⟩:=m.to h;have hz:z∈ys:=w.start.resolve_right (by simp);have cl:∀y∈ys,∀p∈au ins gs y,p.2∈ys:=λy hy p hp=>(w.cl y hy p hp).resolve_right (by simp);clear h w m
 induction r with
 | nil=>exact hz
 | cons a _ _ ih=>exact ih (cl _ hz _ a)
theorem WI.old {h:Str} (w:WI ins gs z xs ys (ln++[h])) (hh:h∈ys):WI ins gs z xs ys ln:=by
 have f:∀x,x∈ys\/x∈ln++[h]->x∈ys\/x∈ln:=λx q=>by
  rcases q with q|q
  ·exact .inl q
  rcases Qp.mp q with q|q
  ·exact .inr q
  rw[Qr]at q;rw[q];exact .inl hh
 exact{w.nd,λy q=>w.sub y (q.imp id λq=>XV _ q),f z w.start,λy hy p hp=>f _ (w.cl y hy p hp)}
theorem WI.new {h:Str} (m:Met ins gs z xs) (w:WI ins gs z xs ys (ln++[h])) (hh:h∉ys):WI ins gs z xs (ys++[h]) (ln++nxS ins gs h):=by
 have hx:h∈xs:=w.sub h (.inr (by simp))
 have f:∀x,x∈ys\/x∈ln++[h]->x∈ys++[h]\/x∈ln++nxS ins gs h:=λx q=>by
  rcases q with q|q
  ·exact .inl (XV _ q)
  rcases Qp.mp q with q|q
  ·exact .inr (XV _ q)
  exact .inl (QR _ q)
 have hn:∀{y},y∈nxS ins gs h->y∈xs:=λ{y} q=>by
  obtain⟨p,hp,rfl⟩:=Qj.mp q;exact m.closed hx hp
 refine{Xz.mpr {w.nd,by simp,λa ha b hb q=>hh (by rw[Qr]at hb;rw[<-hb,<-q];exact ha)},λy q=>?_,f z w.start,λy hy p hp=>?_}
 ·rcases q with q|q
  ·rcases Qp.mp q with q|q
   ·exact w.sub y (.inl q)
   rw[Qr]at q;rw[q];exact hx
  rcases Qp.mp q with q|q
  ·exact w.sub y (.inr (XV _ q))
  exact hn q
 rcases Qp.mp hy with q|q
 ·exact f _ (w.cl y q p hp)
 rw[Qr]at q;subst q;exact .inr (QR _ (Qj.mpr ⟨p,hp,rfl⟩))
end
section
theorem pK:FnScope ["net", "standing", "found", "line", "here"] ["net", "standing"] (aB (top 45)):=by fin2
theorem xU {f:Addr} {fd:FuncData} (Fu:Fun K "_law_ways" "_law_ways" (top 45) f fd) (T:Txt K mg TT) (f_law_asked:Fn P w K mg base "_law_asked" ["net", "standing"] 11 eO):FnOk P w K mg base CX0 12 f fd ["net", "standing"] qU:=by
 have S:=pK;refine Fu.ok S (by room) (λcdv A outer s H vs Q E hr h=>?_);obtain⟨a,li,lg,ins,gvs,gs,z,rfl,NA,ok,st,k⟩:=h;have hu:=du hr;refine'{?_,?bb,?_}
 case bb =>
  walk_at "b";exact aF 2 S.nd il;exact aF 3 S.nd (aY (aa (pv 1) ad ai));refine' fQ PassesOwn.never ?_ ?_;rotate_left 2;exact(aM (n8 hr.units) (pv 3) (aY ad) (aP _));walk_at "p";exact aF 4 S.nd (Ak QB PySem.F.slot_list_pop PySem.F.type_list_pop AF (pv 3));exact(iL (d8 hu (pv 4) (pv 2)));exact(gq hu (pv 2) (pv 4) (mE (tgs:=["name", "there"]) (cap:=[]) rfl ⟨rfl,rfl,rfl,rfl,rfl,rfl⟩ (bx (aS f_law_asked hr (aa (pv 0) (aa (pv 4) ad ai) ai))) (λ_ _ _ _=>(sV (K:=K) (n:=2) rfl rfl (bC (dH (i:=0) (show List.Nodup [("name" : Str),("there" : Str)] by decide +kernel) rfl (by z_go)) (bC (dH (i:=1) (show List.Nodup [("name" : Str),("there" : Str)] by decide +kernel) rfl (by z_go)) dX)))) (λ_ _ _ _=>ik) (λ_ _ _ _=>(pv 1))) rfl);exact aF 3 S.nd (ap cu (pv 3) (bG hu (pv 2) (pv 4)));exact(aK (pv 2))
 x_go;obtain⟨xs,met⟩:=wy ok st;have few:=met.few7 ok;have g7:=ok.g7;refine s_seq (bp ?_);intro F hF;refine az ?_;ctx_has H F H1 S1 q1 aJ hF;kt_k;refine bp (cA (ak (aj rfl (aC {by simp[sizeLine],λL0 hL0=>az ?_}))));ctx_has H1 L0 H2 S2 q2 aJ hL0;kt_k;let I34:IvF:=λm U H'=>∃(ys ln:List Str) (ls:F4) (Ln:Addr) (x4:Option V),U=[some (.ref a),some (.str z),some (.ref F),some (.ref Ln),x4]/\m=8*(129-ys.length)+ln.length/\ao H H'/\WD H' F ins gs ys ls/\H' Ln=some (.lst (ln.map V.str))/\H Ln=none/\Ln∉ls/\ln.length<=8*ys.length+1/\WI ins gs z xs ys ln
 refine{I34,
  {_,[],[z],[],L0,_,rfl,rfl,S1.trans S2,{S2 _ _ q1,rfl,λi y l e=>(nomatch e)},q2,ao.free S1 hL0,by simp,by simp,by simp,λy q=>by rw[Qr.mp (q.resolve_left (by simp))];exact met.start,.inr (by simp),λy q=>(nomatch q)},?_}
 rintro m U H' ⟨ys,ln,ls,Ln,x4,rfl,rfl,SH,⟨hF',lls,hls⟩,hLn,hLn0,nLn,lln,wi⟩;have lys:ys.length<=xs.length:=Bf.pigeon _ _ wi.nd λy hy=>wi.sub y (.inl hy);have FL:F≠Ln:=λe=>by rw[e,hLn]at hF';cases hF'
 refine i_test (aV (aj rfl (cA (aC {by simp[sizeLine],λp hp=>?_}))));ctx_has H' p H3 S3 q3 aJ hp;refine{Ln,p,ln.map V.str,[],λ_=>true,rfl,rfl,SqL.of (S3 _ _ hLn),SqL.of q3,(λj x y _ h=>by simp at h),{_,rfl,?_} };have hLn3:=S3 _ _ hLn;have hF3:=S3 _ _ hF';have SH3:=SH.trans S3;have hls3:∀(i:Nat) y l,ys[i]?=some y->ls[i]?=some l->H3 l=some (.lst ((nxS ins gs y).map V.str)):=λi y l e1 e2=>S3 _ _ (hls i y l e1 e2);clear hls hF' hLn SH hp q3 S3;rcases List.eq_nil_or_concat ln with rfl|⟨l0,h,rfl⟩
 ·refine di ?_;exact ck (aj rfl (k F ys xs ls H3 SH3 hF met (wi.fin met) ⟨hF3,lls,hls3⟩))
 rw[List.concat_eq_append] at *;refine ifT (by simp) {_,λ_ _ h=>h,?_};kt_k;refine bp (D0 (aj rfl {i_tyL hLn3,Ln,_,.str h,rfl,rfl,hLn3,by simp,az ?_}));rw[show ((l0++[h]).map V.str).dropLast=l0.map V.str by simp];have hLn4:upd H3 Ln (.lst (l0.map V.str)) Ln=some (.lst (l0.map V.str)):=af;have hF4:upd H3 Ln (.lst (l0.map V.str)) F=some (.dK (fdK (aA ys) ls)):=by rw[am FL];exact hF3
 have SH4:ao H (upd H3 Ln (.lst (l0.map V.str))):=aN SH3 hLn0;have hls4:∀(i:Nat) y l,ys[i]?=some y->ls[i]?=some l->upd H3 Ln (.lst (l0.map V.str)) l=some (.lst ((nxS ins gs y).map V.str)):=λi y l e1 e2=>by rw[am λe=>nLn (by rw[<-e];exact Qg e2)];exact hls3 i y l e1 e2
 generalize upd H3 Ln (.lst (l0.map V.str))=H4 at *;rw[Qk,List.length_singleton]at lln;have hx:h∈xs:=wi.sub h (.inr (by simp));have dg:cK H4 F (.str h) (bh (fdK (aA ys) ls) (Sum.inr h)):=.inl {_,Sum.inr h,.inl hF4,rfl,rfl};refine s_if (i_test (fg (aj rfl (aj rfl {F,_,rfl,dg,_,rfl,?_}))));by_cases c:h∈ys
 ·refine ifF ?_ ?_
  ·cases q:bh (fdK (aA ys) ls) (Sum.inr h) with
   | none=>exact absurd c ((iw ⋯).mp q)
   | some _=>rfl
  exact{8*(129-ys.length)+l0.length,by simp,ys,l0,ls,Ln,_,rfl,rfl,SH4,⟨hF4,lls,hls4⟩,hLn4,hLn0,nLn,⋯,wi.old c}
 have hvn:=(iw (ls:=ls) ⋯).mpr c;refine ifT (by rw[hvn];rfl) ?_;have sth:=met.st h hx;kt_k;refine iI (bR (s_list (bJ (ak (aj rfl (ak (aj rfl (aC {a,li,lg,ins,gvs,gs,h,rfl,NA.same SH4,ok,sth,λl vs H5 S5 hl0 hl5 pr5=>{l,rfl,{_,SqL.of hl5},λL hL=>?_} }))))))));have lv:=aQ pr5;have l7:=ed ins gs h;refine cg (xs:=vs) (λm H' ys=>ao H5 H'/\H' L=some (.lst ys)/\ys=((nxS ins gs h).take m).map V.str) {ag hL,af,by simp} (λm H' ys p=>{p.2.1,SqL.of (p.1 _ _ hl5)}) (λm v H' ys e p=>?_) (λH6 us p=>?_)
 ·obtain⟨Sm,hd,rfl⟩:=p;obtain⟨p,hp,b,rfl,hb⟩:=dB pr5 m v e;have hm:m<vs.length:=(Qe.mp e).1;refine{b,_,rfl,SqT.of (Sm _ _ hb),rfl,?_};refine{_,_,rfl,az {_,_,rfl,az {rfl,by repeat' (first|exact trivial|refine{rfl,?_}),i_yes (b9 ?_)} } };refine aj rfl (b8.mk hd hm (by rw[Qa,Qv];omega) {aN Sm hL,af,?_});have:(nxS ins gs h)[m]?=some p.2:=by unfold nxS;rw[Qi,hp];rfl
  rw[QV,this,Qt];rfl
 obtain⟨Sm,hd,rfl⟩:=p;have ln:(nxS ins gs h).length=vs.length:=by unfold nxS;rw[Qa,lv]
 rw[Qw ⋯]at hd;have S46:=S5.trans Sm;have hF6:=S46 _ _ hF4;have hLn6:=S46 _ _ hLn4;have L4:H4 L=none:=ao.free S5 hL;refine aj rfl (aj rfl {F,_,rfl,iD.k (k:=Sum.inr h) hF6 (by have:=oC (xs:=aA ys) (as:=ls) (by unfold aA;rw[Qa];omega);omega),?_});rw[ee _ hvn,show fdK (aA ys) ls++[(Sum.inr h,V.ref L)]=fdK (aA (ys++[h])) (ls++[L]) by unfold fdK aA;rw[Qt,List.zip_append (by rw[Qa];omega),Qt];rfl];have FLh:F≠L:=λe=>by rw[<-e,hF4]at L4;cases L4
 have LnL:Ln≠L:=λe=>by rw[<-e,hLn4]at L4;cases L4
 have hF7:upd H6 F (.dK (fdK (aA (ys++[h])) (ls++[L]))) F=some (.dK (fdK (aA (ys++[h])) (ls++[L]))):=af;have hL7:upd H6 F (.dK (fdK (aA (ys++[h])) (ls++[L]))) L=some (.lst ((nxS ins gs h).map V.str)):=by rw[am FLh.symm];exact hd
 have hLn7:upd H6 F (.dK (fdK (aA (ys++[h])) (ls++[L]))) Ln=some (.lst (l0.map V.str)):=by rw[am FL.symm];exact hLn6
 have hls7:∀(i:Nat) y l,(ys++[h])[i]?=some y->(ls++[L])[i]?=some l->upd H6 F (.dK (fdK (aA (ys++[h])) (ls++[L]))) l=some (.lst ((nxS ins gs y).map V.str)):=λi y l e1 e2=>by
  by_cases ci:i<ys.length
  ·rw[QF ci]at e1;rw[QF ⋯]at e2;have:=hls4 i y l e1 e2;rw[am λe=>by rw[e,hF4]at this;cases this];exact S46 _ _ this
  have ei:i=ys.length:=by
   have:=(Qe.mp e1).1;simp at this;omega
  subst ei;rw[QH (Qh _),Nat.sub_self]at e1;rw[QH ⋯,lls,Nat.sub_self]at e2;cases e1;cases e2;exact hL7
 have SH7:ao H (upd H6 F (.dK (fdK (aA (ys++[h])) (ls++[L])))):=aN (SH4.trans S46) hF;generalize upd H6 F (.dK (fdK (aA (ys++[h])) (ls++[L])))=H7 at *;have w2:=wi.new met c;have nd2:=w2.nd;have lls2:(ls++[L]).length=(ys++[h]).length:=by simp[lls]
 have dg7:cK H7 F (.str h) (some (.ref L)):=dZ (.inl hF7) nd2 (i:=ys.length) (by simp) (by rw[<-lls];simp);refine bp (aV (aj rfl (i_dget (aj rfl (aj rfl {F,_,rfl,dg7,gG hLn7 hL7 (by rw[Qa,Qa];omega) λN hN=>az ?_})))));ctx_has H7 N H8 S8 q8 aJ hN;refine{8*(129-(ys++[h]).length)+(l0++nxS ins gs h).length,?_,ys++[h],l0++nxS ins gs h,ls++[L],N,_,rfl,rfl,SH7.trans S8,{S8 _ _ hF7,lls2,λi y l e1 e2=>S8 _ _ (hls7 i y l e1 e2)},by rw[q8,Qt],ao.free SH7 hN,λhm=>?_,?_,w2}
 ·have:(ys++[h]).length<=xs.length:=Bf.pigeon _ _ nd2 λy hy=>w2.sub y (.inl hy);rw[Qk,List.length_singleton]at this;simp only[Qk,List.length_singleton];omega
 ·obtain⟨i,hi,ei⟩:=Qo.mp hm;have:=hls7 i ((ys++[h])[i]'⋯) N (Qc _) (by rw[Qc hi,ei]);rw[hN]at this;cases this
 simp only[Qk,List.length_singleton];omega
end
section
variable {os hs ks:List Str}
theorem Run.last {x w:Str} (r:Run ins gs x os w):os=[]\/∃ps y n,Run ins gs x ps y/\ps.length+1=os.length/\(n,w)∈au ins gs y:=by
 induction r with
 | nil=>exact .inl rfl
 | @cons z y w n os a b r ih =>
 refine .inr ?_;rcases ih with e|⟨ps,y',n',r',l,s⟩
 ·subst e;cases r;exact{[],z,n,.nil,rfl,a}
 exact{n::ps,y',n',.cons a b r',by simp[l],s}
theorem Run.cut {x w:Str} (r:Run ins gs x os w):∀k,k<=os.length->∃y,Run ins gs x (os.take k) y:=by
 induction r with
 | nil=>exact λk h=>{_,by rw[List.take_nil];exact .nil}
 | cons a b _ ih =>
 intro k h
 cases k with
 | zero=>exact{_,.nil}
 | succ k =>
 obtain⟨y,r'⟩:=ih k (by simpa using h);exact{y,.cons a b r'}
theorem oo:∀n,(∀os y,Run ins gs z os y->os.length<=n)->∃m,cY ins gs z m
 | 0,h=>{0,h,[],z,.nil,rfl}
 | n+1,h=>by
  by_cases c:∃os y,Run ins gs z os y/\os.length=n+1
  ·exact{n+1,h,c}
  refine oo n λos y r=>?_;have:=h os y r;have:os.length≠n+1:=λe=>c ⟨os,y,r,e⟩;omega
def LvI (ins:List Str) (gs:F5) (z:Str) (k:Nat) (hs:List Str):Prop:=hs.Nodup/\∀x,x∈hs↔∃os,os.length=k/\Run ins gs z os x
theorem LvI.next {k:Nat} (m:Met ins gs z xs) (l:LvI ins gs z k hs) (nd:ks.Nodup) (h:∀x,x∈ks↔∃y∈hs,x∈nxS ins gs y):LvI ins gs z (k+1) ks:=by
 refine{nd,λx=>(h x).trans {λ⟨y,hy,hx⟩=>?_,λ⟨os,e,r⟩=>?_} }
 ·obtain⟨os,e,r⟩:=(l.2 y).mp hy;obtain⟨p,hp,rfl⟩:=Qj.mp hx;exact{os++[p.1],by simp[e],r.snoc hp (m.st _ (m.closed (m.runs r m.start) hp))}
 rcases r.last with e0|⟨ps,y,n,r',e',s⟩
 ·rw[e0]at e;cases e
 exact{y,(l.2 y).mpr {ps,⋯,r'},Qj.mpr ⟨_,s,rfl⟩}
theorem LvI.end {k:Nat} (l:LvI ins gs z (k+1) []):∃n,cY ins gs z n:=by
 refine oo k λos y r=>Nat.le_of_not_lt λh=>?_;obtain⟨w,r'⟩:=r.cut (k+1) h;exact absurd ((l.2 w).mpr {_,by rw[Qv];omega,r'}) (by simp)
theorem LvI.few {k:Nat} (m:Met ins gs z xs) (l:LvI ins gs z k hs):hs.length<=xs.length/\∀x∈hs,x∈xs:=by
 have:∀x∈hs,x∈xs:=λx hx=>by
  obtain⟨os,_,r⟩:=(l.2 x).mp hx;exact m.runs r m.start
 exact{Bf.pigeon _ _ l.1 this,this}
end
theorem vK (kvs:List (Key × V)) (k:Key) (v:V):(cr kvs k v).length<=kvs.length+1:=by
 unfold cr
 split <;> simp
theorem AI (ks:List Str) (x:Str):cr (knK (aA ks)) (Sum.inr x) (.bl true)=knK (aA (Bf.bi ks [x])):=by
 by_cases c:x∈ks
 ·rw[Bf.lF c];have hm:(Sum.inr x:Key)∈aA ks:=Qj.mpr ⟨x,c,rfl⟩;unfold cr;rw[c6]
  cases q:bh (knK (aA ks)) (Sum.inr x) with
  | none=>exact absurd hm (jA.mp q)
  | some v =>
  rw[Option.isSome_some,QL rfl];unfold knK;rw[QT];refine List.map_congr_left λy _=>?_;by_cases e:y=Sum.inr x
  ·subst e;simp
  simp[e]
 rw[Bf.lE c,ee _ (jA.mpr λq=>by obtain⟨y,hy,e⟩:=Qj.mp q;cases e;exact c hy)];unfold knK aA;simp
theorem qx {x:Str}:∀{qs:F6},x∈qs.map (·.1)->∃n,(x,n)∈qs/\bh (bu qs) (Sum.inr x)=some (.int n)
 | [],h=>by simp at h
 | q::qs,h=>by
  by_cases e:q.1=x
  ·subst e;exact{q.2,by simp,bS (p:=((Sum.inr q.1:Key),V.int q.2)) rfl}
  obtain⟨n,h1,h2⟩:=qx (qs:=qs) (by
   rcases QO.mp h with z|z
   ·exact absurd z.symm e
   exact z)
  exact{n,by simp[h1],(bU (p:=((Sum.inr q.1:Key),V.int q.2)) λz=>e (Sum.inr.inj z)).trans h2}
theorem uO (qs:F6) (y:Str) (v:Int):∃qs':F6,cr (bu qs) (Sum.inr y) (.int v)=bu qs'/\(∀x,x∈qs.map (·.1)->x∈qs'.map (·.1))/\y∈qs'.map (·.1)/\∀q∈qs',q∈qs\/q.2=v:=by
 unfold cr;by_cases a:((bu qs).any λkv=>decide (kv.1=(Sum.inr y:Key)))=true
 ·rw[QL a];refine{qs.map λq=>if q.1=y then (q.1,v) else q,?_,λx hx=>?_,?_,λq hq=>?_}
  ·unfold bu;rw[QT,QT];refine List.map_congr_left λq _=>?_;show (if (Sum.inr q.1:Key)=Sum.inr y then ((Sum.inr q.1:Key),V.int v) else (Sum.inr q.1,V.int q.2))=((Sum.inr (if q.1=y then (q.1,v) else q).1:Key),V.int (if q.1=y then (q.1,v) else q).2);by_cases e:q.1=y
   ·rw[QL e,QL (by rw[e])]
   rw[QI e,QI λz=>e (Sum.inr.inj z)]
  ·obtain⟨q,hq,rfl⟩:=Qj.mp hx;refine Qj.mpr {_,Qj.mpr ⟨q,hq,rfl⟩,?_}
   split <;> rfl
  ·obtain⟨p,hp,e⟩:=List.any_eq_true.mp a;obtain⟨q,hq,rfl⟩:=Qj.mp hp;have e:q.1=y:=Sum.inr.inj (XI e);refine Qj.mpr {_,Qj.mpr ⟨q,hq,rfl⟩,?_};rw[QL e];exact e
  obtain⟨p,hp,rfl⟩:=Qj.mp hq;by_cases e:p.1=y
  ·rw[QL e];exact .inr rfl
  rw[QI e];exact .inl hp
 rw[QI a];refine{qs++[(y,v)],by unfold bu;rw[Qt];rfl,λx hx=>by rw[Qt];exact XV _ hx,by simp,λq hq=>?_};rcases Qp.mp hq with h|h
 ·exact .inl h
 rw[Qr]at h;rw[h];exact .inr rfl
def LvD (xs:List Str) (qs:F6):Prop:=(∀x∈xs,x∈qs.map (·.1))/\∀q∈qs,0<=q.2/\q.2<=200
def jN:Sp:=λvs H Q _=>∃(F:Addr) (ins:List Str) (gs:F5) (z:Str) (ys xs:List Str) (ls:F4),vs=[.ref F,.str z]/\WD H F ins gs ys ls/\Met ins gs z xs/\NetOk ins gs/\ys.Perm xs /\
 (∀d qs H',ao H H'->(∃n,cY ins gs z n)->H' d=some (.dK (bu qs))->LvD xs qs->Q (.ref d) H')/\(∀H',ao H H'->(¬∃n,cY ins gs z n)->Q .non H')
section
theorem lR:FnScope ["ways", "standing", "found", "here", "k", "ahead", "one", "there"] ["ways", "standing"] (aB (top 46)):=by fin2
theorem uD {f:Addr} {fd:FuncData} (Fu:Fun K "_law_levels" "_law_levels" (top 46) f fd) (T:Txt K mg TT):FnOk P w K mg base CX0 1 f fd ["ways", "standing"] jN:=by
 have S:=lR;refine Fu.ok S (by room) (λcdv A outer s H vs Q E hr h=>?_);obtain⟨F,ins,gs,z,ys,xs,ls,rfl,⟨hF,lls,hls⟩,met,ok,pm,k1,k2⟩:=h;have hu:=du hr;refine'{?_,?bb,?_}
 case bb =>
  walk_at "b";exact aF 2 S.nd il;exact aF 3 S.nd (aY (aa (pv 1) ad ai));walk_at "f";exact(ce (by rfl) T.n_range (aa (ap aO (aE u7 (by rfl) T.n_len QJ (aa (pv 0) ad ai)) ae) ad));exact(bO 4 S.nd);walk_at "p";exact aF 5 S.nd il;walk_at "f";exact(bx (pv 3));exact(bO 6 S.nd);walk_at "p";exact(gq hu (pv 2) (pv 6) (pv 4) rfl);walk_at "f";exact(bx (bG hu (pv 0) (pv 6)));exact(bO 7 S.nd);walk_at "p";exact(gq hu (pv 5) (pv 7) eB rfl);exact aF 3 S.nd (gr (ld rfl) (by rfl) T.n_list PyProof.Rows.boot_list (aa (pv 5) ad ai));exact(aM (n9 hr.units) (pv 3) (aY ad) (aP _));exact(aK (pv 2));exact(aK kj)
 x_go;have few:=met.few7 ok;have g7:=ok.g7;have lys:=pm.length_eq;have ndy:=pm.nodup_iff.mpr met.nd;refine s_seq (bp ?_);intro D hD;refine az ?_;ctx_has H D H1 S1 q1 aJ hD;kt_k;refine bp (cA (ak (aj rfl (aC {by simp[sizeLine],λL0 hL0=>az ?_}))));ctx_has H1 L0 H2 S2 q2 aJ hL0;have S12:=S1.trans S2;have lk:(fdK (aA ys) ls).length=ys.length:=by rw[oC (by unfold aA;rw[Qa];omega)];exact lls
 kt_k;refine s_for (s_rng1 (ak (aV (dN (ak (aj rfl (aC {F,_,rfl,S12 _ _ hF,i_c (cw (aC ?_))}))))))) ;rw[lk];refine{_,rfl,⋯,⋯,?_};rw[show ((ys.length:Int)+1).toNat=ys.length+1 by omega];let I35:IvF:=λi U H'=>(∃(hs:List Str) (Hn:Addr) (kvs:F6) (x4 x5 x6 x7:Option V),U=[some (.ref F),some (.str z),some (.ref D),some (.ref Hn),x4,x5,x6,x7]/\ao H H'/\H' D=some (.dK (bu kvs))/\(kvs.length<=128*i/\(∀q∈kvs,0<=q.2/\q.2<=200)/\∀os x,Run ins gs z os x->os.length<i->x∈kvs.map (·.1))/\H' Hn=some (.lst (hs.map V.str))/\LvI ins gs z i hs/\hs≠[])
 refine cV (n:=ys.length+1) I35
  {[z],L0,[],_,_,_,_,rfl,S12,S2 _ _ q1,{by simp,(by simp),λos x _ h=>absurd h (Nat.not_lt_zero _)},q2,{by simp,λx=>{λh=>{[],rfl,by rw[Qr]at h;rw[h];exact .nil},λ⟨os,e,r⟩=>by rw[Xl]at e;subst e;cases r;simp} },by simp} (λi U H' hi pv=>?_) (λU H' pv=>?_)
 ·obtain⟨hs,Hn,kvs,x4,x5,x6,x7,rfl,SH,hD',⟨lkv,bnd,old⟩,hHn,lv,ne⟩:=pv;obtain⟨lhs,subx⟩:=lv.few met;refine az ?_;kt_k;refine bp ?_;intro Ah hAh;refine az ?_;ctx_has H' Ah H3 S3 q3 aJ hAh;have Ah0:H Ah=none:=ao.free SH hAh;have AD:Ah≠D:=λe=>by rw[e,hD']at hAh;cases hAh
  have AN:Ah≠Hn:=λe=>by rw[e,hHn]at hAh;cases hAh
  have ND:Hn≠D:=λe=>by rw[e,hD']at hHn;cases hHn
  kt_k;refine s_for (s_list (aj rfl {Hn,rfl,{_,SqL.of (S3 _ _ hHn)},?_}));let Iv:=λ(j:Nat) (R:Str->Prop) (G:Hp)=>ao H G/\G Hn=some (.lst (hs.map V.str))/\(∃kvs:F6,G D=some (.dK (bu kvs))/\kvs.length<=128*i+j/\(∀q∈kvs,0<=q.2/\q.2<=200)/\(∀os x,Run ins gs z os x->os.length<i->x∈kvs.map (·.1))/\∀y∈hs.take j,y∈kvs.map (·.1))/\∃ks:List Str,G Ah=some (.dK (knK (aA ks)))/\ks.Nodup/\∀x,x∈ks↔R x;let I36:IvF:=λj U G=>(∃x6 x7:Option V,U=[some (.ref F),some (.str z),some (.ref D),some (.ref Hn),some (.int (0+(i:Int))),some (.ref Ah),x6,x7])/\Iv j (λx=>∃y∈hs.take j,x∈nxS ins gs y) G
  refine dO (xs:=hs.map V.str) I36
   {⟨_,_,rfl⟩,SH.trans S3,S3 _ _ hHn,{kvs,S3 _ _ hD',⋯,bnd,old,by simp},[],q3,by simp,by simp} (λj U G _ pv=>SqL.of pv.2.2.1) (λj v U G hv pv=>?_) (λU G pv=>?_)
  ·obtain⟨⟨x6,x7,rfl⟩,SG,gHn,⟨kv2,gD,lkv2,bnd2,old2,seen2⟩,ks,gA,ndk,mk⟩:=pv;rw[Qi]at hv
   cases ey:hs[j]? with
   | none=>rw[ey]at hv;cases hv
   | some y =>
   rw[ey]at hv;cases hv;have hj:=(Qe.mp ey).1;have hyx:=subx y (Qg ey);refine az ?_;kt_k;refine iI (aj rfl (aj rfl (aj rfl {D,_,rfl,iD.k (k:=Sum.inr y) gD (by unfold bu;rw[Qa];omega),?_})));have lk2:=vK (bu kv2) (Sum.inr y) (.int (0+(i:Int)));obtain⟨kv3,ek,sub3,in3,val3⟩:=uO kv2 y (0+(i:Int));rw[ek]at lk2 ⊢;clear ek;unfold bu at lk2;rw[Qa,Qa]at lk2;have SG2:ao H (upd G D (.dK (bu kv3))):=aN SG hD;have gD2:upd G D (.dK (bu kv3)) D=some (.dK (bu kv3)):=af;have gA2:upd G D (.dK (bu kv3)) Ah=some (.dK (knK (aA ks))):=by rw[am AD];exact gA
   have gHn2:upd G D (.dK (bu kv3)) Hn=some (.lst (hs.map V.str)):=by rw[am ND];exact gHn
   generalize upd G D (.dK (bu kv3))=G2 at *;obtain⟨ix,hix,eix⟩:=Qo.mp (pm.mem_iff.mpr hyx);have ex:ys[ix]?=some y:=by rw[Qc hix,eix]
   obtain⟨b,eb⟩:∃b,ls[ix]?=some b:={_,Qc ⋯};have hb:=hls ix y b ex eb;have tk:hs.take (j+1)=hs.take j++[y]:=by rw[QV,ey];rfl
   have bnd3:∀q∈kv3,0<=q.2/\q.2<=200:=λq hq=>(val3 q hq).elim (bnd2 q) λe=>by rw[e];omega
   have seen3:∀y∈hs.take (j+1),y∈kv3.map (·.1):=λw hw=>by
    rw[tk]at hw;rcases Qp.mp hw with h|h
    ·exact sub3 w (seen2 w h)
    rw[Qr]at h;rw[h];exact in3
   refine s_for (s_list (i_dget (aj rfl (aj rfl {F,_,rfl,dZ (.inl (SG2 _ _ hF)) ndy ex eb,b,rfl,{_,SqL.of (SG2 _ _ hb)},?_}))));let I37:IvF:=λl U G=>(∃x7:Option V,U=[some (.ref F),some (.str z),some (.ref D),some (.ref Hn),some (.int (0+(i:Int))),some (.ref Ah),some (.str y),x7])/\Iv (j+1) (λx=>(∃y∈hs.take j,x∈nxS ins gs y)\/x∈(nxS ins gs y).take l) G
   refine dO (xs:=(nxS ins gs y).map V.str) I37
    {⟨_,rfl⟩,SG2,gHn2,{kv3,gD2,⋯,bnd3,λos x r h=>sub3 x (old2 os x r h),seen3},ks,gA2,ndk,by simpa using mk} (λl U G _ pv=>SqL.of (pv.2.1 _ _ hb)) (λl v U G hv pv=>?_) (λU G pv=>?_)
   ·obtain⟨⟨x7,rfl⟩,SG,gHn,⟨kv4,gD,lkv4,r4⟩,ks,gA,ndk,mk⟩:=pv;rw[Qi]at hv
    cases eu:(nxS ins gs y)[l]? with
    | none=>rw[eu]at hv;cases hv
    | some u =>
    rw[eu]at hv;cases hv
    have lks:ks.length<=xs.length:=Bf.pigeon _ _ ndk λx hx=>by
     rcases(mk x).mp hx with⟨y',hy',q⟩|q
     ·obtain⟨p,hp,rfl⟩:=Qj.mp q;exact met.closed (subx y' (List.mem_of_mem_take hy')) hp
     obtain⟨p,hp,rfl⟩:=Qj.mp (List.mem_of_mem_take q);exact met.closed hyx hp
    refine az ?_;refine iI (i_c (aj rfl (aj rfl {Ah,_,rfl,iD.k (k:=Sum.inr u) gA (by unfold knK aA;rw[Qa,Qa];omega),?_})));rw[AI];refine{⟨_,rfl⟩,aN SG Ah0,by rw[am AN.symm];exact gHn,{kv4,by rw[am AD.symm];exact gD,lkv4,r4},_,af,Bf.d6 _ _ ndk,λx=>?_};rw[Bf.eJ,mk,QV,eu];show (_\/_)\/x∈[u]↔_\/x∈_++[u];rw[Qp,or_assoc]
   obtain⟨⟨x7,rfl⟩,SG,gHn,⟨kv4,gD,lkv4,r4⟩,ks,gA,ndk,mk⟩:=pv;rw[Qa,Qw (Qh _)]at mk;refine{⟨_,_,rfl⟩,SG,gHn,⟨kv4,gD,lkv4,r4⟩,ks,gA,ndk,λx=>(mk x).trans ?_};rw[tk];simp[or_and_right,exists_or]
  obtain⟨⟨x6,x7,rfl⟩,SG,gHn,⟨kv2,gD,lkv2,bnd2,old2,seen2⟩,ks,gA,ndk,mk⟩:=pv;rw[Qa]at lkv2 mk seen2;rw[Qw (Qh _)]at mk seen2
  have all2:∀os x,Run ins gs z os x->os.length<i+1->x∈kv2.map (·.1):=λos x r h=>by
   by_cases c:os.length<i
   ·exact old2 os x r c
   exact seen2 x ((lv.2 x).mpr {os,⋯,r})
  have lv2:=lv.next met ndk mk
  try dsimp only
  kt_k;refine bp (dN (ak (aj rfl (aC {Ah,_,rfl,.inl gA,λHm hHm=>az ?_}))));rw[show (knK (aA ks)).map (λp=>kV p.1)=ks.map V.str by unfold knK aA;rw[QT,QT];rfl];ctx_has G Hm G3 S3 q3 aJ hHm;refine s_if (i_test (aV (aj rfl (cA (aC {by simp[sizeLine],λp hp=>?_})))));ctx_has G3 p G4 S4 q4 aJ hp;refine{Hm,p,ks.map V.str,[],λ_=>true,rfl,rfl,SqL.of (S4 _ _ q3),SqL.of q4,(λj x y _ h=>by simp at h),{_,rfl,?_} };have SG4:=SG.trans (S3.trans S4)
  cases ks with
  | nil =>
   refine b9 ?_
   exact ck (aj rfl (k1 _ _ _ SG4 lv2.end ((S3.trans S4) _ _ gD) {λx hx=>by
    obtain⟨os,r⟩:=met.to hx;refine all2 os x r (Nat.lt_of_not_le λh=>?_);obtain⟨w,r'⟩:=r.cut (i+1) h
    exact absurd ((lv2.2 w).mpr {_,by rw[Qv];omega,r'}) (by simp),bnd2}))
  | cons u ks =>
  refine di ?_;kt_k;exact{_,Hm,kv2,_,_,_,_,rfl,SG4,(S3.trans S4) _ _ gD,{⋯,bnd2,all2},S4 _ _ q3,lv2,by simp}
 obtain⟨hs,Hn,kvs,x4,x5,x6,x7,rfl,SH,hD',lkv,hHn,lv,ne⟩:=pv
 try dsimp only
 refine ck (i_c (k2 _ SH λ⟨n,l⟩=>?_))
 cases hs with
 | nil=>exact ne rfl
 | cons x hs =>
 obtain⟨os,e,r⟩:=(lv.2 x).mp (by simp);have:=l.lt met r;omega
end
section
theorem SD.fat (h:SD H F ins gs xs) (nd:xs.Nodup):FAt H F ins gs (·∈xs):=λy hy=>by
 obtain⟨as,r,las,sts⟩:=h;obtain⟨i,hi,e⟩:=Qo.mp hy;have e1:xs[i]?=some y:=by rw[Qc hi,e]
 obtain⟨b,e2⟩:∃b,as[i]?=some b:={_,Qc ⋯};exact{b,dZ r nd e1 e2,sts i y b e1 e2}
theorem SD.frz {kvs:List (Key × V)} {o:Obj} (h:SD H F ins gs xs) (r:Rd H F (.dK kvs)) (e:∀{as:F4},Rd H F (.dK (fdK (aA xs) as))->kvs=fdK (aA xs) as):SD (upd H F (.frz o (.dK kvs))) F ins gs xs:=by
 obtain⟨as,r2,las,sts⟩:=h;refine{as,.inr {o,by rw[<-e r2];exact af},las,λi x b e1 e2=>?_};obtain⟨vs,h1,h2⟩:=sts i x b e1 e2;refine{vs,by rw[am (ii r h1 (λ_ z=>nomatch z) λ_ _ z=>nomatch z)];exact h1,bX (λv s ⟨c,ec,q⟩=>{c,ec,?_}) h2};rw[am (ii r q (λ_ z=>nomatch z) λ_ _ z=>nomatch z)];exact q
theorem vH {u v:HO} {a:Addr} (r:Rd H a u) (f:Fz u) (r2:Rd H a v) (f2:Fz v):u=v:=by
 rcases r with r|⟨o,r⟩ <;> rcases r2 with r2|⟨o2,r2⟩ <;> rw[r]at r2 <;> cases r2 <;> first|rfl|exact f.elim|exact f2.elim
end
def d5 (ins:List Str) (gs:F5) (xs:List Str):Bool:=xs.all λh=>(au ins gs h).all λp=>decide (p.2∈xs)
def jO:Sp:=λvs H Q _=>∃(F:Addr) (ins:List Str) (gs:F5) (xs:List Str),vs=[.ref F]/\SD H F ins gs xs/\xs.Nodup/\xs.length<=5000/\NetOk ins gs/\∀H',ao H H'->Q (.bl (d5 ins gs xs)) H'
theorem f_:d5 ins gs xs=true↔∀h∈xs,∀p∈au ins gs h,p.2∈xs:=by
 unfold d5;simp[QN]
theorem uU {ta:TA} (q:ta U H λvs H1=>∃l ts,vs=[.ref l]/\SqL K H1 l (ts.map V.str)/\ts.length<4000/\∀(p:Addr) (ss:List Str),H1 p=none->yC ts ss->Q (.ref p) (upd H1 p (.lst (ss.map V.str)))):ph K ta U H Q:=q
theorem zL {neg:Bool} {ys:List Str} (h1:SqL K H a (xs.map V.str)) (h2:SqL K H b (ys.map V.str)) (q:Q (.bl (if neg then !decide (xs=ys) else decide (xs=ys))) H):pT K neg (.ref a) (.ref b) H Q:=by
 refine{a,b,_,_,λj=>decide (xs[j]?=ys[j]?),rfl,rfl,h1,h2,λj x y e1 e2=>?_,?_}
 ·rw[Qi]at e1 e2
  cases c1:xs[j]? with
  | none=>rw[c1]at e1;cases e1
  | some u =>
  cases c2:ys[j]? with
  | none=>rw[c2]at e2;cases e2
  | some v =>
  rw[c1]at e1;rw[c2]at e2;cases e1;cases e2;have q:=EqD.flat (K:=K) (H:=H) (n:=8) (x:=V.str u) (y:=V.str v) rfl rfl
  have e:eqV (.str u) (.str v)=decide (some u=some v):=by
   show decide (u=v)=_;simp
  rw[e]at q;show EqD K H 8 (V.str u) (V.str v) (decide (xs[j]?=ys[j]?));rw[c1,c2];exact q
 have e:((xs.map V.str).length==(ys.map V.str).length&&(List.range (xs.map V.str).length).all λj=>decide (xs[j]?=ys[j]?))=decide (xs=ys):=by
  rw[Qa,Qa];by_cases c:xs=ys
  ·subst c;rw[Xc rfl,beq_self_eq_true,Bool.true_and,QN];intro j _;exact Xc rfl
  rw[QY c];refine Xi.mpr λz=>c ?_;rw[Xm,QN]at z;obtain⟨z1,z2⟩:=z;have z1:xs.length=ys.length:=XI z1;refine List.ext_getElem? λj=>?_;by_cases cj:j<xs.length
  ·exact XI (z2 j (List.mem_range.mpr cj))
  rw[Xb ⋯,Xb ⋯]
 rw[e];exact q
noncomputable def xB (ss:List Str):Bool:=@decide (ss.Nodup/\ss.Pairwise leT) (Classical.propDecidable _)
theorem h_:xB ss=true↔ss.Nodup/\ss.Pairwise leT:=by
 unfold xB;exact @XC _ (Classical.propDecidable _)
theorem vo {ts:List Str} (h:yC ts ss):decide (ts=ss)=xB ts:=by
 by_cases c:ts=ss
 ·rw[Xc c,c];exact(h_.mpr ⟨h.1,h.2.2⟩).symm
 rw[QY c];refine(Xi.mpr λz=>c ?_).symm;obtain⟨z1,z2⟩:=h_.mp z;exact pD z2 h.2.2 ((List.perm_ext_iff_of_nodup z1 h.1).mpr λx=>(h.2.1 x).symm)
noncomputable def km (n:Nat) (ss:List Str):Bool:=ss.all (stB n)&&xB ss
def my:Sp:=λvs H Q _=>∃(a li lg:Addr) (ins:List Str) (gvs:List V) (gs:F5) (p:Addr) (ss:List Str),vs=[.ref a,.ref p]/\NAt H a li lg ins gvs gs/\NetOk ins gs/\H p=some (.lst (ss.map V.str))/\ss.length<4000/\(∀x∈ss,x.length<=1000)/\∀H',ao H H'->Q (.bl (km (aq ins gs).length ss)) H'
theorem vV (h:km n ss=true):(∀x∈ss,StOk n x)/\ss.Nodup/\ss.Pairwise leT:=by
 unfold km at h;rw[Xm,QN]at h;exact{λx hx=>nr.mp (h.1 x hx),h_.mp h.2}
theorem ug (nd:xs.Nodup) (l:as.length=xs.length):bH [] (cO (xs.zip (as.map V.ref)))=fdK (aA xs) as:=by
 suffices h:∀(pre:List Str) (pas:F4),pas.length=pre.length->(pre++xs).Nodup->bH (fdK (aA pre) pas) (cO (xs.zip (as.map V.ref)))=fdK (aA (pre++xs)) (pas++as) from h [] [] rfl nd
 clear nd
 induction xs generalizing as with
 | nil=>intro pre pas h _;simp at l;subst l;simp[cO,bH]
 | cons x xs ih =>
 cases as with
 | nil=>simp at l
 | cons a as =>
 intro pre pas h nd;show bH (cr (fdK (aA pre) pas) (Sum.inr x) (.ref a)) (cO (xs.zip (as.map V.ref)))=_;have nx:x∉pre:=λhx=>(Xz.mp nd).2.2 x hx x (by simp) rfl;rw[ee _ ((iw h).mpr nx),<-wR h,ih (by simpa using l) (pre++[x]) (pas++[a]) (by simp[h]) (by simpa using nd)];simp
section
theorem nN:FnScope ["steps", "here"] ["steps"] (aB (top 23)):=by fin2
theorem qe {f:Addr} {fd:FuncData} (Fu:Fun K "is_closed" "is_closed" (top 23) f fd) (T:Txt K mg TT):FnOk P w K mg base CX0 1 f fd ["steps"] jO:=by
 have S:=nN;refine Fu.ok S (by room) (λcdv A outer s H vs Q E hr h=>?_);obtain⟨F,ins,gs,xs,rfl,sd,nd,few,ok,k⟩:=h;have hu:=du hr;refine'{?_,?bb,?_}
 case bb =>
  walk_at "b";refine' rc ?_;rotate_left 1;walk_at "f";exact(eZ (pv 0));exact(bO 1 S.nd);walk_at "p";exact(fv (eA (aE (gb rfl) (by rfl) T.n_all PyProof.Rows.boot_all (aa (dq "step" [("steps", 0)] (bx (bG hu (pv 0) (pv 1))) (λ_ _ _ _=>(Aj (Al hu (aD (jB (K:=K) rfl) (pv 0) ae) (pv 1))))) ad))));exact(aK eB);exact(aK eB)
 x_go;obtain⟨as,r,las,sts⟩:=id sd;have lk:(fdK (aA xs) as).length=xs.length:=by unfold fdK aA;simp[las]
 kt_k;refine vG r trivial λo=>?_
 have sd2:SD (upd H F (.frz o (.dK (fdK (aA xs) as)))) F ins gs xs:=sd.frz r λr2=>by
  injection vH r trivial r2 trivial
 have hF2:upd H F (.frz o (.dK (fdK (aA xs) as))) F=some (.frz o (.dK (fdK (aA xs) as))):=af;have bk:∀{H':Hp},ao (upd H F (.frz o (.dK (fdK (aA xs) as)))) H'->ao H (back H F H'):=λS=>eF r S;generalize upd H F (.frz o (.dK (fdK (aA xs) as)))=H2 at *;refine s_for (gk (aj rfl {F,o,_,rfl,hF2,?_}));let I38:IvF:=λi σ' H'=>(∃x1,σ'=[some (.ref F),x1])/\ao H2 H'/\∀i'<i,∀h,xs[i']?=some h->((au ins gs h).all λp=>decide (p.2∈xs))=true;refine kQ I38 {⟨_,rfl⟩,ao.refl _,λi' h=>absurd h (Nat.not_lt_zero _)} (λi σ' H' _ pv=>pv.2.1 _ _ hF2) (λi k' v σ' H' e pv=>?_) (λσ' H' pv=>?_)
 ·obtain⟨⟨x1,rfl⟩,Sm,no⟩:=pv;obtain⟨x,b,e1,e2,rfl,rfl⟩:=kS e;have hx:=Qg e1;obtain⟨b',dg,vs,hvs,pvs⟩:=(sd2.same Sm).fat nd x hx;have rF:Rd H' F (.dK (fdK (aA xs) as)):=.inr {o,Sm _ _ hF2};have lvs:vs.length=(au ins gs x).length:=by have:=aQ pvs;unfold cN at this;rwa [Qa]at this
  have l7:=ed ins gs x;have g7:=ok.g7;refine az ?_;kt_k;refine i_not (i_tB (dN (ak (bR (s_list (i_dget (aj rfl (aj rfl {F,_,rfl,dg,b',rfl,{_,SqL.of hvs},λL hL=>?_}))))))));let I39:IvC:=λm H3 ys=>ao H' H3/\H3 L=some (.lst ys)/\ys=(((au ins gs x).take m).map λp=>decide (p.2∈xs)).map V.bl;refine cg (xs:=vs) I39 {ag hL,af,rfl} (λm H' ys p=>{p.2.1,SqL.of (p.1 _ _ hvs)}) (λm v H3 ys e p=>?_) (λH3 ys p=>?_)
  ·obtain⟨S3,hd,rfl⟩:=p;obtain⟨p,b2,hp,rfl,hb2⟩:=gO pvs e;have hm:m<vs.length:=(Qe.mp e).1;refine az {by repeat' (first|exact trivial|refine{rfl,?_}),i_yes (b9 ?_)};refine DZ (aV (aj rfl (i_c (i_ixT (S3 _ _ hb2) rfl (aj rfl ?_)))));refine{F,bh (fdK (aA xs) as) (Sum.inr p.2),rfl,.inl {_,Sum.inr p.2,nU S3 rF,rfl,rfl},?_}
   have dv:(bh (fdK (aA xs) as) (Sum.inr p.2)).isSome=decide (p.2∈xs):=by
    by_cases c:p.2∈xs
    ·rw[Xc c]
     cases hv:bh (fdK (aA xs) as) (Sum.inr p.2) with
     | none=>exact absurd c ((iw las).mp hv)
     | some _=>rfl
    rw[QY c,(iw las).mpr c];rfl
   rw[dv];refine b8.mk hd hm (by rw[Qa,Qa,Qv];omega) {aN S3 hL,af,?_};rw[QV,hp,XT,Qt,Qt];rfl
  obtain⟨S3,hd,rfl⟩:=p;rw[lvs,Qw (Qh _)]at hd;refine aC {L,_,rfl,SqL.of hd,?_};refine{_,rfl,?_};rw[List.all_map];by_cases c:((au ins gs x).all λp=>decide (p.2∈xs))=true
  ·have e:((au ins gs x).all (id∘λp=>decide (p.2∈xs)))=true:=c;rw[e];refine di ?_;lk;refine{⟨_,rfl⟩,Sm.trans S3,λi' hi' h eh=>?_};by_cases ci:i'<i
   ·exact no i' ci h eh
   have:i'=i:=by omega
   subst this;rw[e1]at eh;cases eh;exact c
  have e:((au ins gs x).all (id∘λp=>decide (p.2∈xs)))=false:=Xi.mpr c;rw[e];refine b9 ?_;lk;refine{(Sm.trans S3) _ _ hF2,?_};have hb:d5 ins gs xs=false:=Xi.mpr λz=>c (QN.mp z x hx);have:=k _ (bk (Sm.trans S3));rwa [hb]at this
 obtain⟨⟨x1,rfl⟩,Sm,no⟩:=pv;refine{Sm _ _ hF2,?_};lk
 have hb:d5 ins gs xs=true:=QN.mpr λh hh=>by
  obtain⟨i,hi,e⟩:=Qo.mp hh;exact no i (by rw[lk];exact hi) h (by rw[Qc hi,e])
 have:=k _ (bk Sm);rwa [hb]at this
theorem pP:FnScope ["net", "thing"] ["net", "thing"] (aB (top 22)):=by fin2
theorem rq {f:Addr} {fd:FuncData} (Fu:Fun K "is_paper" "is_paper" (top 22) f fd) (T:Txt K mg TT) (f_is_standing:Fn P w K mg base "is_standing" ["net", "thing"] 2 nw):FnOk P w K mg base CX0 3 f fd ["net", "thing"] my:=by
 have S:=pP;refine Fu.ok S (by room) (λcdv A outer s H vs Q E hr h=>?_);obtain⟨a,li,lg,ins,gvs,gs,p,ss,rfl,NA,ok,hp,few,len,k⟩:=h;refine'{?_,?bb,?_}
 case bb =>
  walk_at "b";exact(PW.pt (ij (fv (eA (aE cW (by rfl) T.n_isinstance Xw (aa (pv 1) (aa (gt (v:=.ty "list") (by rfl) T.n_list PyProof.Rows.boot_list rfl) ad ai) ai)))) (fP (fv (eA (aE (gb rfl) (by rfl) T.n_all PyProof.Rows.boot_all (aa (dq "part" [("net", 0)] (bx (pv 1)) (λ_ _ _ _=>(aS f_is_standing hr (aa (pv 1) (aa (pv 0) ad ai) ai)))) ad)))))));exact(aK eB);exact(aK (dY (n9 hr.units) (pv 1) (re rfl (by rfl) T.n_sorted (by rfl) T.n_set (aa (pv 1) ad ai)) (aP _)))
 x_go;lk;refine{_,_,_,_,rfl,TyOf.lst hp,fX "list", ?_};refine{_,rfl,di ?_};refine i_not (i_tB (dN (ak (bR (s_list (aj rfl {p,rfl,{_,SqL.of hp},λL hL=>?_}))))));refine cg (xs:=ss.map V.str) (λm H3 ys=>ao H H3/\H3 L=some (.lst ys)/\ys=((ss.take m).map (stB (aq ins gs).length)).map V.bl) {ag hL,af,rfl} (λm H' ys pv=>{pv.2.1,SqL.of (pv.1 _ _ hp)}) (λm v H3 ys e pv=>?_) (λH3 ys pv=>?_)
 ·obtain⟨S3,hd,rfl⟩:=pv;rw[Qi]at e
  cases ex:ss[m]? with
  | none=>rw[ex]at e;cases e
  | some x =>
  rw[ex]at e;cases e;have hm:m<ss.length:=(Qe.mp ex).1;refine az {by repeat' (first|exact trivial|refine{rfl,?_}),i_yes (b9 ?_)};refine bJ (ak (aj rfl (ak (aj rfl (aC {a,li,lg,ins,gvs,gs,x,rfl,NA.same S3,ok,len x (Qg ex),λH4 S4=>?_})))));refine b8.mk (S4 _ _ hd) (by rw[Qa];exact hm) (by rw[Qa,Qa,Qv];omega) {aN (S3.trans S4) hL,af,?_};rw[QV,ex,XT,Qt,Qt];rfl
 obtain⟨S3,hd,rfl⟩:=pv;rw[Qa,Qw (Qh _)]at hd;refine aC {L,_,rfl,SqL.of hd,?_};refine{_,rfl,?_};rw[List.all_map];by_cases c:ss.all (stB (aq ins gs).length)=true
 ·have e:ss.all (id∘stB (aq ins gs).length)=true:=c;rw[e];refine di ?_;lk;refine uU (ak (aj rfl (aC {p,ss,rfl,SqL.of (S3 _ _ hp),few,λq s7 hq su=>?_})));refine zL (SqL.of (ag hq _ _ (S3 _ _ hp))) (SqL.of af) ?_;have:=k _ (S3.trans (ag (o:=.lst (s7.map V.str)) hq));unfold km at this;rw[c,Bool.true_and,<-vo su]at this;exact this
 have e:ss.all (id∘stB (aq ins gs).length)=false:=Xi.mpr c;rw[e];refine b9 ?_;lk;have:=k _ S3;unfold km at this;rw[Xi.mpr c]at this;exact this
end
theorem AJ:PySem.W.kitOne K (.type "int") (.type "bool")=some false:=by with_unfolding_all rfl
def iC (H:Hp) (p:Addr) (bs:F4) (qs:F6):Prop:=H p=some (.lst (bs.map V.ref))/\bs.length=qs.length/\∀(i:Nat) b q,bs[i]?=some b->qs[i]?=some q->H b=some (.tup [.str q.1,.int q.2])
variable {qs:F6}
theorem iC.same {bs:F4} (S:ao H H') (h:iC H p bs qs):iC H' p bs qs:={S _ _ h.1,h.2.1,λi b q e1 e2=>S _ _ (h.2.2 i b q e1 e2)}
theorem iC.prs {bs:F4} (h:iC H p bs qs):Paired (qL H) (bs.map V.ref) (qs.map λq=>(q.1,V.int q.2)):=by
 refine e_ (by rw[Qa,Qa,h.2.1]) λi v q e1 e2=>?_;rw[Qi]at e1 e2
 cases c1:bs[i]? with
 | none=>rw[c1]at e1;cases e1
 | some b =>
 cases c2:qs[i]? with
 | none=>rw[c2]at e2;cases e2
 | some q' =>
 rw[c1]at e1;rw[c2]at e2;cases e1;cases e2;exact{b,rfl,h.2.2 i b q' c1 c2}
theorem gv (qs:F6):(bu qs).map (·.1)=aA (qs.map (·.1)):=by unfold bu aA;rw[QT,QT];rfl
theorem kP (nd:(qs.map (·.1)).Nodup):bH [] (cO (qs.map λq=>(q.1,V.int q.2)))=bu qs:=by
 have e:cO (qs.map λq=>(q.1,V.int q.2))=bu qs:=by unfold cO bu;rw[QT];rfl
 rw[e,gn _ _ (by rw[gv];exact fZ nd) (λ_ _=>rfl),List.nil_append]
theorem ir (nd:(qs.map (·.1)).Nodup) {q:Str × Int} (h:q∈qs):bh (bu qs) (Sum.inr q.1)=some (.int q.2):=by
 obtain⟨i,hi,e⟩:=Qo.mp h;refine eL (i:=i) (by rw[gv];exact fZ nd) ?_;unfold bu;rw[Qi,Qc hi,e];rfl
theorem yj:(bh (bu qs) (Sum.inr x)).isSome=decide (x∈qs.map (·.1)):=by
 cases q:bh (bu qs) (Sum.inr x) with
 | none =>
  have:=cS.mp q;rw[gv]at this;rw[QY λh=>this (Qj.mpr ⟨x,h,rfl⟩)];rfl
 | some v =>
 rw[Xc]
 ·rfl
 refine Decidable.byContradiction λh=>?_
 have:bh (bu qs) (Sum.inr x)=none:=cS.mpr λz=>by
  rw[gv]at z;obtain⟨y,hy,e⟩:=Qj.mp z;cases e;exact h hy
 rw[this]at q;cases q
theorem qw (nd:(qs.map (·.1)).Nodup) (h:x∈qs.map (·.1)):∃n,(x,n)∈qs/\bh (bu qs) (Sum.inr x)=some (.int n):=by
 obtain⟨q,hq,rfl⟩:=Qj.mp h;exact{q.2,hq,ir nd hq}
def ltV:Option V->Int->Bool
 | some (.int m),n=>decide (m<n)
 | _,_=>false
def mP (ins:List Str) (gs:F5) (qs:F6):Bool:=qs.all λq=>(au ins gs q.1).all λp=>ltV (bh (bu qs) (Sum.inr p.2)) q.2
def wt (qs:F6):Bool:=qs.all λq=>decide (0<=q.2)
noncomputable def shB (ins:List Str) (gs:F5) (z r:Str) (qs:F6):Bool:=wt qs&&km (aq ins gs).length (qs.map (·.1))&&decide (z∈qs.map (·.1))&&d5 ins gs (qs.map (·.1))&&mP ins gs qs&&decide (((qs.map (·.1)).filter λh=>decide ((au ins gs h).length=0))=[r])
def vq:Sp:=λvs H Q _=>∃(b:Addr) (x y:V),vs=[.ref b]/\H b=some (.tup [x,y])/\Q (.bl true) H
def sJ:Sp:=λvs H Q _=>∃i:Int,vs=[.int i]/\Q (.bl true) H
def vz:Sp:=λvs H Q _=>∃(b:Addr) (x:Str) (n:Int),vs=[.ref b]/\H b=some (.tup [.str x,.int n])/\Q (.bl (decide (0<=n))) H
def vB:Sp:=λvs H Q _=>∃(a li lg:Addr) (ins:List Str) (gvs:List V) (gs:F5) (p:Addr) (bs:F4) (qs:F6),vs=[.ref a,.ref p]/\NAt H a li lg ins gvs gs/\NetOk ins gs/\iC H p bs qs/\qs.length<4000/\(∀q∈qs,q.1.length<=1000)/\∀H',ao H H'->Q (.bl (wt qs&&km (aq ins gs).length (qs.map (·.1)))) H'
def vC:Sp:=λvs H Q _=>∃(F N:Addr) (ins:List Str) (gs:F5) (qs:F6),vs=[.ref F,.ref N]/\SD H F ins gs (qs.map (·.1))/\(qs.map (·.1)).Nodup/\qs.length<=5000/\H N=some (.dK (bu qs))/\N≠F/\d5 ins gs (qs.map (·.1))=true/\NetOk ins gs/\∀H',ao H H'->Q (.bl (mP ins gs qs)) H'
def pk:Sp:=λvs H Q _=>∃(a li lg:Addr) (ins:List Str) (gvs:List V) (gs:F5) (z r:Str) (p:Addr) (bs:F4) (qs:F6),vs=[.ref a,.str z,.str r,.ref p]/\NAt H a li lg ins gvs gs/\NetOk ins gs/\StOk (aq ins gs).length z/\iC H p bs qs/\qs.length<4000/\(∀q∈qs,q.1.length<=1000)/\∀H',ao H H'->Q (.bl (shB ins gs z r qs)) H'
section
theorem q_:FnScope ["thing"] ["thing"] (aB (top 5)):=by fin2
variable {fd:FuncData} {f:Addr}
theorem xV (Fu:Fun K "is_pair" "is_pair" (top 5) f fd) (T:Txt K mg TT):FnOk P w K mg base CX0 1 f fd ["thing"] vq:=by
 have S:=q_;refine Fu.ok S (by room) (λcdv A outer s H vs Q E hr h=>?_);obtain⟨b,x,y,rfl,hb,k⟩:=h;refine{_,(a9 (aK (fU (aE cW (by rfl) T.n_isinstance Xw (aa (pv 0) (aa (gt (v:=.ty "tuple") (by rfl) T.n_tuple PyProof.Rows.boot_tuple rfl) ad ai) ai)) (fS (dY cH (aE aI (by rfl) T.n_len QJ (aa (pv 0) ad ai)) ae (aP _)))))),?_};x_go;refine ck (i_andV (dN (ak (aj rfl (ak (i_c (aC {_,_,_,_,rfl,TyOf.tup hb,fX "tuple", {_,rfl,b9 ?_} })))))));exact aV (dN (ak (aj rfl (aC {b,_,rfl,.inr (SqT.of hb),i_c (i_eq rfl k)}))))
theorem pO:FnScope ["thing"] ["thing"] (aB (top 6)):=by fin2
theorem wa (Fu:Fun K "is_whole" "is_whole" (top 6) f fd) (T:Txt K mg TT):FnOk P w K mg base CX0 1 f fd ["thing"] sJ:=by
 have S:=pO;refine Fu.ok S (by room) (λcdv A outer s H vs Q E hr h=>?_);obtain⟨i,rfl,q⟩:=h;refine{_,(a9 (aK (fU (aE cW (by rfl) T.n_isinstance Xw (aa (pv 0) (aa (gt (v:=.ty "int") (by rfl) T.n_int PyProof.Rows.boot_int rfl) ad ai) ai)) (fS (rf (aE cW (by rfl) T.n_isinstance Xw (aa (pv 0) (aa (gt (v:=.ty "bool") (by rfl) T.n_bool PyProof.Rows.boot_bool rfl) ad ai) ai))))))),?_};x_go;lk;refine{_,_,_,_,rfl,TyOf.int i,fX "int", _,rfl,b9 ?_};lk;exact{_,_,_,_,rfl,TyOf.int i,AJ,_,rfl,q}
theorem jX:FnScope ["thing"] ["thing"] (aB (top 29)):=by fin2
theorem xW (Fu:Fun K "is_numbered" "is_numbered" (top 29) f fd) (T:Txt K mg TT) (f_is_pair:Fn P w K mg base "is_pair" ["thing"] 1 vq) (f_is_whole:Fn P w K mg base "is_whole" ["thing"] 1 sJ):FnOk P w K mg base CX0 2 f fd ["thing"] vz:=by
 have S:=jX;refine Fu.ok S (by room) (λcdv A outer s H vs Q E hr h=>?_);obtain⟨b,x,n,rfl,hb,k⟩:=h;refine{_,(a9 (aK (fU (aS f_is_pair hr (aa (pv 0) ad ai)) (fU (aS f_is_whole hr (aa (aD bg (pv 0) ae) ad)) (fS (dY zc (aD bg (pv 0) ae) ae (aP _))))))),?_};x_go;refine ck (i_andV (bJ (ak (aj rfl (aC {b,_,_,rfl,hb,{_,rfl,b9 ?_} })))));refine i_andV (bJ (ak (aV (aj rfl (i_c (i_ixT hb rfl (aC {n,rfl,{_,rfl,b9 ?_} })))))));exact aV (aV (aj rfl (i_c (i_ixT hb rfl (i_c (cw k))))))
theorem iH:FnScope ["net", "thing"] ["net", "thing"] (aB (top 30)):=by fin2
theorem x_ (Fu:Fun K "is_rest_paper" "is_rest_paper" (top 30) f fd) (T:Txt K mg TT) (f_is_numbered:Fn P w K mg base "is_numbered" ["thing"] 2 vz) (f_is_paper:Fn P w K mg base "is_paper" ["net", "thing"] 3 my):FnOk P w K mg base CX0 4 f fd ["net", "thing"] vB:=by
 have S:=iH;refine Fu.ok S (by room) (λcdv A outer s H vs Q E hr h=>?_);obtain⟨a,li,lg,ins,gvs,gs,p,bs,qs,rfl,NA,ok,⟨hp,lb,hb⟩,few,len,k⟩:=h;refine'{?_,?bb,?_}
 case bb =>
  walk_at "b";exact(PW.pt (ij (fv (eA (aE cW (by rfl) T.n_isinstance Xw (aa (pv 1) (aa (gt (v:=.ty "list") (by rfl) T.n_list PyProof.Rows.boot_list rfl) ad ai) ai)))) (fP (fv (eA (aE (gb rfl) (by rfl) T.n_all PyProof.Rows.boot_all (aa (dq "part" [] (bx (pv 1)) (λ_ _ _ _=>(aS f_is_numbered hr (aa (pv 0) ad ai)))) ad)))))));exact(aK eB);exact(aK (aS f_is_paper hr (aa (pv 0) (aa (dq "part" [] (bx (pv 1)) (λ_ _ _ _=>(aD (jB (K:=K) rfl) (pv 0) ae))) ad) ai)))
 x_go;kt_k;kt_k;kt_k;refine i_not (i_tB (dN (ak (aj rfl (ak (i_c (aC {_,_,_,_,rfl,TyOf.lst hp,fX "list", {_,rfl,di ?_} })))))));refine i_not (i_tB (dN (ak (bR (s_list (aj rfl {p,rfl,{_,SqL.of hp},λL hL=>?_}))))));refine cg (xs:=bs.map V.ref) (λm H3 ys=>ao H H3/\H3 L=some (.lst ys)/\ys=((qs.take m).map λq=>decide (0<=q.2)).map V.bl) {ag hL,af,rfl} (λm H' ys pv=>{pv.2.1,SqL.of (pv.1 _ _ hp)}) (λm v H3 ys e pv=>?_) (λH3 ys pv=>?_)
 ·obtain⟨S3,hd,rfl⟩:=pv;rw[Qi]at e
  cases ex:bs[m]? with
  | none=>rw[ex]at e;cases e
  | some b =>
  rw[ex]at e;cases e;have hm:m<bs.length:=(Qe.mp ex).1;obtain⟨q,eq⟩:∃q,qs[m]?=some q:={_,Qc ⋯};refine az {by repeat' (first|exact trivial|refine{rfl,?_}),i_yes (b9 ?_)};refine bJ (ak (aj rfl (aC {b,q.1,q.2,rfl,S3 _ _ (hb m b q ex eq),?_})));refine b8.mk hd (by rw[Qa];exact hm) (by rw[Qa,Qa,Qv];omega) {aN S3 hL,af,?_};rw[QV,eq,XT,Qt,Qt];rfl
 obtain⟨S3,hd,rfl⟩:=pv;rw[Qa,lb,Qw (Qh _)]at hd;refine aC {L,_,rfl,SqL.of hd,?_};refine{_,rfl,?_};rw[List.all_map];by_cases c:wt qs=true
 ·have e:qs.all (id∘λq=>decide (0<=q.2))=true:=c;rw[e];refine di ?_;kt_k;refine ck (bJ (ak (aj rfl (ak (bR (s_list (aj rfl {p,rfl,{_,SqL.of (S3 _ _ hp)},λL2 hL2=>?_})))))));refine cg (xs:=bs.map V.ref) (λm H4 ys=>ao H3 H4/\H4 L2=some (.lst ys)/\ys=((qs.take m).map (·.1)).map V.str) {ag hL2,af,rfl} (λm H' ys pv=>{pv.2.1,SqL.of (pv.1 _ _ (S3 _ _ hp))}) (λm v H4 ys e pv=>?_) (λH4 ys pv=>?_)
  ·obtain⟨S4,hd,rfl⟩:=pv;rw[Qi]at e
   cases ex:bs[m]? with
   | none=>rw[ex]at e;cases e
   | some b =>
   rw[ex]at e;cases e;have hm:m<bs.length:=(Qe.mp ex).1;obtain⟨q,eq⟩:∃q,qs[m]?=some q:={_,Qc ⋯};refine az {by repeat' (first|exact trivial|refine{rfl,?_}),i_yes (b9 ?_)};refine aV (aj rfl (i_c (i_ixT ((S3.trans S4) _ _ (hb m b q ex eq)) rfl ?_)));refine b8.mk hd (by rw[Qa];exact hm) (by rw[Qa,Qa,Qv];omega) {aN S4 hL2,af,?_};rw[QV,eq,XT,Qt,Qt];rfl
  obtain⟨S4,hd,rfl⟩:=pv;rw[Qa,lb,Qw (Qh _)]at hd;refine aC {a,li,lg,ins,gvs,gs,L2,qs.map (·.1),rfl,NA.same (S3.trans S4),ok,hd,by rw[Qa];exact few,λx hx=>?_,λH5 S5=>?_}
  ·obtain⟨q,hq,rfl⟩:=Qj.mp hx;exact len q hq
  have:=k _ ((S3.trans S4).trans S5);rwa [c,Bool.true_and]at this
 have e:qs.all (id∘λq=>decide (0<=q.2))=false:=Xi.mpr c;rw[e];refine b9 ?_;refine ck (i_c ?_);have:=k _ S3;rwa [Xi.mpr c,Bool.false_and]at this
theorem lU:FnScope ["steps", "numbers", "here"] ["steps", "numbers"] (aB (top 31)):=by fin2
theorem yb (Fu:Fun K "is_falling" "is_falling" (top 31) f fd) (T:Txt K mg TT):FnOk P w K mg base CX0 1 f fd ["steps", "numbers"] vC:=by
 have S:=lU;refine Fu.ok S (by room) (λcdv A outer s H vs Q E hr h=>?_);obtain⟨F,N,ins,gs,qs,rfl,sd,nd,few,hN,NF,cl,ok,k⟩:=h;have hu:=du hr;refine'{?_,?bb,?_}
 case bb =>
  walk_at "b";refine' rc ?_;rotate_left 1;walk_at "f";exact(eZ (pv 0));exact(bO 2 S.nd);walk_at "p";exact(fv (eA (aE (gb rfl) (by rfl) T.n_all PyProof.Rows.boot_all (aa (dq "step" [("numbers", 1),("here", 2)] (bx (bG hu (pv 0) (pv 2))) (λ_ _ _ _=>(dY kz (bG hu (pv 1) (aD (jB (K:=K) rfl) (pv 0) ae)) (bG hu (pv 1) (pv 2)) (aP _)))) ad))));exact(aK eB);exact(aK eB)
 x_go;have cl:=f_.mp cl;obtain⟨as,r,las,sts⟩:=id sd;have lx:(qs.map (·.1)).length=qs.length:=Qa _;have lk:(fdK (aA (qs.map (·.1))) as).length=qs.length:=by unfold fdK aA;simp[las]
 kt_k;refine vG r trivial λo=>?_
 have sd2:SD (upd H F (.frz o (.dK (fdK (aA (qs.map (·.1))) as)))) F ins gs (qs.map (·.1)):=sd.frz r λr2=>by
  injection vH r trivial r2 trivial
 have hF2:upd H F (.frz o (.dK (fdK (aA (qs.map (·.1))) as))) F=some (.frz o (.dK (fdK (aA (qs.map (·.1))) as))):=af;have bk:∀{H':Hp},ao (upd H F (.frz o (.dK (fdK (aA (qs.map (·.1))) as)))) H'->ao H (back H F H'):=λS=>eF r S;have hN2:upd H F (.frz o (.dK (fdK (aA (qs.map (·.1))) as))) N=some (.dK (bu qs)):=by rw[am NF];exact hN
 generalize upd H F (.frz o (.dK (fdK (aA (qs.map (·.1))) as)))=H2 at *;refine s_for (gk (aj rfl {F,o,_,rfl,hF2,?_}));let I40:IvF:=λi σ' H'=>(∃x1,σ'=[some (.ref F),some (.ref N),x1])/\ao H2 H'/\∀i'<i,∀q,qs[i']?=some q->((au ins gs q.1).all λp=>ltV (bh (bu qs) (Sum.inr p.2)) q.2)=true;refine kQ I40 {⟨_,rfl⟩,ao.refl _,λi' h=>absurd h (Nat.not_lt_zero _)} (λi σ' H' _ pv=>pv.2.1 _ _ hF2) (λi k' v σ' H' e pv=>?_) (λσ' H' pv=>?_)
 ·obtain⟨⟨x1,rfl⟩,Sm,no⟩:=pv;obtain⟨x,b,e1,e2,rfl,rfl⟩:=kS e;have hx:=Qg e1;rw[Qi]at e1
  cases eq:qs[i]? with
  | none=>rw[eq]at e1;cases e1
  | some q =>
  rw[eq]at e1;cases e1;have hq:=Qg eq;obtain⟨b',dg,vs,hvs,pvs⟩:=(sd2.same Sm).fat nd q.1 hx;have lvs:vs.length=(au ins gs q.1).length:=by have:=aQ pvs;unfold cN at this;rwa [Qa]at this
  have l7:=ed ins gs q.1;have g7:=ok.g7;have hN3:=Sm _ _ hN2;refine az ?_;kt_k;refine i_not (i_tB (dN (ak (bR (s_list (i_dget (aj rfl (aj rfl {F,_,rfl,dg,b',rfl,{_,SqL.of hvs},λL hL=>?_}))))))));let I41:IvC:=λm H3 ys=>ao H' H3/\H3 L=some (.lst ys)/\ys=(((au ins gs q.1).take m).map λp=>ltV (bh (bu qs) (Sum.inr p.2)) q.2).map V.bl;refine cg (xs:=vs) I41 {ag hL,af,rfl} (λm H' ys p=>{p.2.1,SqL.of (p.1 _ _ hvs)}) (λm v H3 ys e p=>?_) (λH3 ys p=>?_)
  ·obtain⟨S3,hd,rfl⟩:=p;obtain⟨p,b2,hp,rfl,hb2⟩:=gO pvs e;have hm:m<vs.length:=(Qe.mp e).1;obtain⟨n,hn,ev⟩:=qw nd (cl q.1 hx p (Qg hp));have dg1:cK H3 N (.str p.2) (some (.int n)):=.inl {_,Sum.inr p.2,.inl (S3 _ _ hN3),rfl,ev.symm};have dg2:cK H3 N (.str q.1) (some (.int q.2)):=.inl {_,Sum.inr q.1,.inl (S3 _ _ hN3),rfl,(ir nd hq).symm};refine az {by repeat' (first|exact trivial|refine{rfl,?_}),i_yes (b9 ?_)};refine aV (i_dget (aj rfl (aV (aj rfl (i_c (i_ixT (S3 _ _ hb2) rfl {N,_,rfl,dg1,i_dget (aj rfl (aj rfl {N,_,rfl,dg2,cw ?_}))}))))));refine b8.mk hd hm (by rw[Qa,Qa,Qv];omega) {aN S3 hL,af,?_};rw[QV,hp,XT,Qt,Qt];show _=_++[V.bl (ltV (bh (bu qs) (Sum.inr p.2)) q.2)];rw[ev];rfl
  obtain⟨S3,hd,rfl⟩:=p;rw[lvs,Qw (Qh _)]at hd;refine aC {L,_,rfl,SqL.of hd,?_};refine{_,rfl,?_};rw[List.all_map];by_cases c:((au ins gs q.1).all λp=>ltV (bh (bu qs) (Sum.inr p.2)) q.2)=true
  ·have e:((au ins gs q.1).all (id∘λp=>ltV (bh (bu qs) (Sum.inr p.2)) q.2))=true:=c;rw[e];refine di ?_;kt_k;refine{⟨_,rfl⟩,Sm.trans S3,λi' hi' h eh=>?_};by_cases ci:i'<i
   ·exact no i' ci h eh
   have:i'=i:=by omega
   subst this;rw[eq]at eh;cases eh;exact c
  have e:((au ins gs q.1).all (id∘λp=>ltV (bh (bu qs) (Sum.inr p.2)) q.2))=false:=Xi.mpr c;rw[e];refine b9 ?_;refine ck (i_c ?_);refine{(Sm.trans S3) _ _ hF2,?_};have hb:mP ins gs qs=false:=Xi.mpr λz=>c (QN.mp z q hq);have:=k _ (bk (Sm.trans S3));rwa [hb]at this
 obtain⟨⟨x1,rfl⟩,Sm,no⟩:=pv;refine{Sm _ _ hF2,?_};lk
 have hb:mP ins gs qs=true:=QN.mpr λh hh=>by
  obtain⟨i,hi,e⟩:=Qo.mp hh;exact no i (by rw[lk];exact hi) h (by rw[Qc hi,e])
 have:=k _ (bk Sm);rwa [hb]at this
theorem lO:FnScope ["net", "standing", "rest", "paper", "numbers", "steps"] ["net", "standing", "rest", "paper"] (aB (top 32)):=by fin2
theorem uz (Fu:Fun K "rest_shows" "rest_shows" (top 32) f fd) (T:Txt K mg TT) (f_check_standing:Fn P w K mg base "check_standing" ["net", "thing"] 3 (ny .non)) (f_is_rest_paper:Fn P w K mg base "is_rest_paper" ["net", "thing"] 4 vB) (f_steps_from:Fn P w K mg base "steps_from" ["net", "standing"] 12 eO)
  (f_is_closed:Fn P w K mg base "is_closed" ["steps"] 1 jO) (f_is_falling:Fn P w K mg base "is_falling" ["steps", "numbers"] 1 vC) (f_rests_in:Fn P w K mg base "rests_in" ["steps"] 1 eY):FnOk P w K mg base CX0 13 f fd ["net", "standing", "rest", "paper"] pk:=by
 have S:=lO;refine Fu.ok S (by room) (λcdv A outer s H vs Q E hr h=>?_);obtain⟨a,li,lg,ins,gvs,gs,z,r,p,bs,qs,rfl,NA,ok,st,pp,few,len,k⟩:=h;have hu:=du hr;refine'{?_,?bb,?_}
 case bb =>
  walk_at "b";exact(bB (aS f_check_standing hr (aa (pv 0) (aa (pv 1) ad ai) ai)));exact(fv (eA (aS f_is_rest_paper hr (aa (pv 0) (aa (pv 3) ad ai) ai))));exact(aK eB);exact aF 4 S.nd (dA rfl (by rfl) T.n_dict (aa (pv 3) ad ai));exact(iL (d8 hu (pv 1) (pv 4)));exact(aK eB);exact aF 5 S.nd (dA rfl (by rfl) T.n_dict (aa (rg (dq "here" [("net", 0)] (eZ (pv 4)) (λ_ _ _ _=>(bq (aa (pv 0) (aa (aS f_steps_from hr (aa (pv 1) (aa (pv 0) ad ai) ai)) ad se_call) ai))))) ad))
  with_reducible refine' aK ?e
  case e =>
   exact(fU (aS f_is_closed hr (aa (pv 5) ad ai)) (fU (aS f_is_falling hr (aa (pv 5) (aa (pv 4) ad ai) ai)) (fS (dY (n9 hr.units) (aS f_rests_in hr (aa (pv 5) ad ai)) (aY (aa (pv 2) ad ai)) (aP _)))))
 x_go;unfold shB at k;lk;refine{a,li,lg,ins,gvs,gs,z,rfl,NA,ok,st,λH0 S0=>?_};lk;refine{a,li,lg,ins,gvs,gs,p,bs,qs,rfl,NA.same S0,ok,pp.same S0,few,len,λH1 S1=>{_,rfl,?_} };have S01:=S0.trans S1;by_cases c:(wt qs&&km (aq ins gs).length (qs.map (·.1)))=true
 case neg =>
  have cf:=Xi.mpr c;rw[cf]at k ⊢;exact b9 (ck (i_c (k _ S01)))
 have hpap:km (aq ins gs).length (qs.map (·.1))=true:=by rw[Xm]at c;exact c.2
 rw[c]at k ⊢;refine di ?_;kt_k;obtain⟨sts,nd,so⟩:=vV hpap;obtain⟨hp,lb,hb⟩:=pp.same S01;have w11:(aq ins gs).length<=11:=by rw[bZ];have:=ok.i4;have:=ok.g7;omega
 have f11:=fY w11 (fZ nd) λx hx=>by
  obtain⟨y,hy,rfl⟩:=Qj.mp hx;exact{y,rfl,sts y hy}
 unfold aA at f11;rw[Qa]at f11;kt_k;refine bp (gS (ak (aj rfl (aC {p,bs.map V.ref,_,rfl,SqL.of hp,by rw[Qa];omega,(pp.same S01).prs,λN hN=>az ?_}))));rw[kP nd];ctx_has H1 N H2 S2 hN2 aJ hN;have S02:=S01.trans S2;have dgz:cK H2 N (.str z) (bh (bu qs) (Sum.inr z)):=.inl {_,Sum.inr z,.inl hN2,rfl,rfl};kt_k;refine s_if (i_test (fg (aj rfl (aj rfl {N,_,rfl,dgz,_,rfl,?_}))));rw[yj];by_cases cz:z∈qs.map (·.1)
 case neg =>
  rw[QY cz]at k ⊢;exact b9 (ck (i_c (k _ S02)))
 rw[Xc cz]at k ⊢;refine di ?_;kt_k;kt_k;refine bp (gS (ak (wI (.inl hN2) trivial λo=>?_)));have hN3:upd H2 N (.frz o (.dK (bu qs))) N=some (.frz o (.dK (bu qs))):=af;have bk:∀{H':Hp},ao (upd H2 N (.frz o (.dK (bu qs)))) H'->ao H2 (back H2 N H'):=λS=>eF (.inl hN2) S;have NA3:NAt (upd H2 N (.frz o (.dK (bu qs)))) a li lg ins gvs gs:=NA.mono (λb xs e=>by rw[am (λq=>by rw[q]at e;rw[S02 _ _ e]at hN2;cases hN2)];exact S02 _ _ e) (λb xs e=>by rw[am (λq=>by rw[q]at e;rw[S02 _ _ e]at hN2;cases hN2)];exact S02 _ _ e)
 have fr3:∀{b},upd H2 N (.frz o (.dK (bu qs))) b=none->H2 b=none:=λ{b} e=>by
  by_cases c:b=N
  ·rw[c,hN3]at e;cases e
  rw[am c]at e;exact e
 generalize upd H2 N (.frz o (.dK (bu qs)))=H3 at *;refine bR (gk (aj rfl {N,o,_,rfl,hN3,λL hL=>?_}));have lkq:(bu qs).length=qs.length:=by unfold bu;rw[Qa]
 let I42:IvC:=λm H4 ys=>ao H3 H4/\H4 L=some (.lst ys)/\ys.length=m/\∃as:F4,as.length=m/\(∀b∈as,b≠L/\b≠N)/\(∀v∈ys,v≠.ref N)/\Paired (qL H4) ys (((qs.map (·.1)).take m).zip (as.map V.ref))/\∀(i:Nat) x b,((qs.map (·.1)).take m)[i]?=some x->as[i]?=some b->bA H4 b (cN (au ins gs x))
 refine iT I42
  {ag hL,af,rfl,[],rfl,(λb h=>nomatch h),(λv h=>nomatch h),.nil,λi x b _ e=>by simp at e} (λm H' ys pv=>{pv.2.1,pv.1 _ _ hN3}) (λm k' v H4 ys e pv=>?_) (λH4 ys pv=>?_)
 ·obtain⟨S4,hd,ly,as,las,nL,nY,pr,sas⟩:=pv;have e0:(bu qs)[m]?=some (k',v):=e;unfold bu at e;rw[Qi]at e
  cases eq:qs[m]? with
  | none=>rw[eq]at e;cases e
  | some q =>
  rw[eq]at e;cases e;have hm:m<qs.length:=(Qe.mp eq).1;have ex:(qs.map (·.1))[m]?=some q.1:=by rw[Qi,eq];rfl
  refine az {by repeat' (first|exact trivial|refine{rfl,?_}),i_yes (b9 ?_)};refine i_tup (ak (aj rfl (ak (bJ (ak (aj rfl (ak (aj rfl (aC ?_)))))))));refine{a,li,lg,ins,gvs,gs,q.1,rfl,NA3.same S4,ok,sts q.1 (Qg ex),λl vs H5 S5 hl0 hl5 pr5=>?_};refine aC {by simp[sizeLine],λt ht=>?_};ctx_has H5 t H6 S6 q6 aJ ht;have S56:=S5.trans S6;have hd6:=S56 _ _ hd;have hN6:=(S4.trans S5) _ _ hN3;refine b8.mk hd6 (by rw[lkq];exact hm) ⋯ {aN (S4.trans S56) hL,af,by rw[Qk,ly];rfl,as++[l],by rw[Qk,las];rfl,λb hb=>?_,λv hv=>?_,?_,λi y b e1 e2=>?_}
  all_goals have kt:dy H6 (upd H6 L (.lst (ys++[V.ref t]))):=λb us e=>by rw[am (λzz=>by rw[zz,hd6]at e;cases e)];exact e
  ·rcases Qp.mp hb with h|h
   ·exact nL b h
   rw[Qr]at h;rw[h];exact{λzz=>(by rw[zz,hd]at hl0;cases hl0),λzz=>(by rw[zz,S4 _ _ hN3]at hl0;cases hl0)}
  ·rcases Qp.mp hv with h|h
   ·exact nY v h
   rw[Qr]at h;rw[h];exact λzz=>by cases zz;rw[hN6]at ht;cases ht
  ·rw[QV,ex,XT,Qt,List.zip_append (by rw[Qv,Qa,Qa];omega)];refine i9 (bX (λv q ⟨b,e,h⟩=>{b,e,kt _ _ (S56 _ _ h)}) pr) {t,rfl,kt _ _ q6}
  rw[QV,ex,XT]at e1;have ltk:((qs.map (·.1)).take m).length=m:=by rw[Qv,Qa];omega
  have lift:∀{Hx:Hp} {b:Addr} {sts:List (V × Key)},b≠L->dy Hx (upd H6 L (.lst (ys++[V.ref t])))->(∀us,Hx b=some (.lst us)->H6 b=some (.lst us))->bA Hx b sts->bA (upd H6 L (.lst (ys++[V.ref t]))) b sts:=λ{Hx b sts} hb kk hh ⟨us,h1,h2⟩=>{us,by rw[am hb];exact hh us h1,bX (λv s ⟨c,ec,q⟩=>{c,ec,kk _ _ q}) h2};by_cases ci:i<m
  ·rw[QF ⋯]at e1;rw[QF ⋯]at e2;exact lift (nL b (Qg e2)).1 (λc us e=>kt _ _ (S56 _ _ e)) (λus e=>S56 _ _ e) (sas i y b e1 e2)
  rw[QH ⋯]at e1 e2
  have hi:i=m:=by
   have:=(Qe.mp e2).1;simp at this;omega
  subst hi;rw[ltk,Nat.sub_self]at e1;rw[las,Nat.sub_self]at e2;cases e1;cases e2;exact lift (λzz=>by rw[zz,hd]at hl0;cases hl0) (λc us e=>kt _ _ (S6 _ _ e)) (λus e=>S6 _ _ e) (i6 hl5 pr5)
 obtain⟨S4,hd,ly,as,las,nL,nY,pr,sas⟩:=pv;rw[lkq]at ly las pr sas;rw[Qw (by rw[Qa];exact Qh _)]at pr sas;have LN:L≠N:=λe=>by rw[e,hN3]at hL;cases hL
 have bkx:∀{b u},H4 b=some u->b≠N->back H2 N H4 b=some u:=λe n=>by rw[bY n];exact e
 have lxs:(qs.map (·.1)).length=qs.length:=Qa _;refine{S4 _ _ hN3,aC {L,ys,(qs.map (·.1)).zip (as.map V.ref),rfl,SqL.of (bkx hd LN),⋯,?_,λF hF=>?_} }
 ·refine e_ (aQ pr) λi v q e1 e2=>?_;obtain⟨q',e3,b,eb,hb⟩:=paired_get pr e1;rw[e2]at e3;cases e3;exact{b,eb,bkx hb λe=>nY v (Qg e1) (by rw[eb,e])}
 rw[ug nd ⋯];refine az ?_;generalize hE:upd (back H2 N H4) F _=H5;obtain⟨S5,q5⟩:=aJ hF hE;clear hE;have SB:=bk S4;have S25:=SB.trans S5;have hN5:=S25 _ _ hN2
 have sd:SD H5 F ins gs (qs.map (·.1)):={as,.inl q5,⋯,λi x b e1 e2=>by
  obtain⟨us,h1,h2⟩:=sas i x b e1 e2;refine{us,S5 _ _ (bkx h1 (nL b (Qg e2)).2),bX (λv s ⟨c,ec,q⟩=>{c,ec,S5 _ _ (bkx q λe=>?_)}) h2}
  rw[e,S4 _ _ hN3]at q;cases q}
 have NF:N≠F:=λe=>by rw[<-e,SB _ _ hN2]at hF;cases hF
 refine ck (i_andV (bJ (ak (aj rfl (aC {F,ins,gs,_,rfl,sd,nd,⋯,ok,λH6 S6=>{_,rfl,?_} })))));have S06:=S02.trans (S25.trans S6);by_cases cc:d5 ins gs (qs.map (·.1))=true
 case neg =>
  rw[Xi.mpr cc]at k ⊢;exact di (k _ S06)
 rw[cc]at k ⊢;refine b9 ?_;refine i_andV (bJ (ak (aj rfl (ak (aj rfl (aC {F,N,ins,gs,qs,rfl,sd.same S6,nd,⋯,S6 _ _ hN5,NF,cc,ok,λH7 S7=>{_,rfl,?_} }))))));by_cases cf:mP ins gs qs=true
 case neg =>
  rw[Xi.mpr cf]at k ⊢;exact di (k _ (S06.trans S7))
 rw[cf]at k ⊢;refine b9 ?_;obtain⟨as7,r7,las7,sts7⟩:=(sd.same S6).same S7;refine aV (bJ (ak (aj rfl (aC {F,qs.map (·.1),as7,λh=>(au ins gs h).length,rfl,r7,las7,⋯,nd,λi x b e1 e2=>?_,λp8 ss H8 S8 hp8 pm so8 q8=>?_}))))
 ·obtain⟨vs,h1,h2⟩:=sts7 i x b e1 e2;exact{vs,h1,by have:=aQ h2;unfold cN at this;rwa [Qa]at this}
 have es:=pD so8 so pm;subst es;refine cA (ak (aj rfl (aC {by simp[sizeLine],λp9 hp9=>?_})));refine zL (ys:=[r]) (SqL.of (ag hp9 _ _ q8)) (SqL.of af) ?_;exact k _ (S06.trans (S7.trans (S8.trans (ag hp9))))
end
def jg (ins:List Str) (gs:F5) (z:Str) (qs:F6):Prop:=∃xs ps,Met ins gs z xs/\NumOk ins gs xs ps/\qs.Perm (ps.map λ(p:Str × Nat)=>((p.1,(p.2:Int)):Str × Int))/\qs.Pairwise λx y=>leT x.1 y.1
section
variable {ins:List Str} {gs:F5} {z r:Str} {qs qs':F6}
theorem cY.uniq {h:Str} {n m:Nat} (a:cY ins gs h n) (b:cY ins gs h m):n=m:=by
 obtain⟨h1,os,y,r1,e1⟩:=a;obtain⟨h2,ps,w,r2,e2⟩:=b;have:=h1 _ _ r2;have:=h2 _ _ r1;omega
theorem NumOk.sub_of {xs:List Str} {ps ps':List (Str × Nat)} (m:Met ins gs z xs) (a:NumOk ins gs xs ps) (b:NumOk ins gs xs ps') {p:Str × Nat} (hp:p∈ps):p∈ps':=by
 have hx:=a.sub p hp;obtain⟨p',hp',e⟩:=Qj.mp ((b.long_of m hx).mpr {p.2,a.long p hp});have l:=b.long p' hp';rw[e]at l;have:p'=p:=Prod.ext e (l.uniq (a.long p hp));rwa [this]at hp'
theorem tD {α β:Type} {ps:List (α × β)} (nd:(ps.map (·.1)).Nodup):ps.Nodup:=(XJ.mp nd).imp λ{a b} h e=>h (by rw[e])
theorem jg.nd (a:jg ins gs z qs):(qs.map (·.1)).Nodup:=by
 obtain⟨xs,ps,m,o,pm,so⟩:=a;rw[(pm.map _).nodup_iff,QT];exact o.nd
theorem jg.det (a:jg ins gs z qs) (b:jg ins gs z qs'):qs=qs':=by
 have nd':=b.nd;obtain⟨xs,ps,m,o,pm,so⟩:=a;obtain⟨xs',ps',m',o',pm',so'⟩:=b;have e:=m.one m';subst e;have pp:ps.Perm ps':=(List.perm_ext_iff_of_nodup (tD o.nd) (tD o'.nd)).mpr λp=>{λh=>o.sub_of m o' h,λh=>o'.sub_of m o h};have pq:qs.Perm qs':=pm.trans ((pp.map _).trans pm'.symm);refine List.Perm.eq_of_pairwise (λa b ha hb h1 h2=>?_) so so' pq;have ek:a.1=b.1:=qt h1 h2;have ha':=pq.mem_iff.mp ha;obtain⟨i,hi,ei⟩:=Qo.mp ha';obtain⟨j,hj,ej⟩:=Qo.mp hb;have:i=j:=(List.getElem_inj (h₀:=by rw[Qa];exact hi) (h₁:=by rw[Qa];exact hj) nd').mp (by rw[List.getElem_map,List.getElem_map,ei,ej];exact ek);subst this;rw[<-ei,ej]
structure ShOk (ins:List Str) (gs:F5) (z r:Str) (qs:F6):Prop where
 nd:(qs.map (·.1)).Nodup
 so:(qs.map (·.1)).Pairwise leT
 zin:z∈qs.map (·.1)
 rin:r∈qs.map (·.1)
 st:∀q∈qs,StOk (aq ins gs).length q.1
 pos:∀q∈qs,0<=q.2
 rest:∀q∈qs,au ins gs q.1=[]↔q.1=r
 fall:∀q∈qs,∀p∈au ins gs q.1,∃n,(p.2,n)∈qs/\n<q.2
theorem jg.shows (a:jg ins gs z qs) (one:fq ins gs z r):ShOk ins gs z r qs:=by
 have nd:=a.nd;obtain⟨xs,ps,m,o,pm,so⟩:=a;obtain⟨xs',m',uni,n,l⟩:=one;have e:=m.one m';subst e;have keys:∀x,x∈qs.map (·.1)↔x∈ps.map (·.1):=λx=>by rw[(pm.map _).mem_iff,QT];rfl
 have mem:∀q∈qs,∃p∈ps,q=(p.1,(p.2:Int)):=λq hq=>by
  obtain⟨p,hp,e⟩:=Qj.mp (pm.mem_iff.mp hq);exact⟨p,hp,e.symm⟩
 obtain⟨hr,er⟩:=(uni r).mpr rfl;refine{nd,XJ.mpr so,(keys z).mpr ((o.long_of m m.start).mpr ⟨n,l⟩),(keys r).mpr ((o.long_of m hr).mpr {0,.rest er}),λq hq=>?_,λq hq=>?_,λq hq=>?_,λq hq p hp=>?_}
 ·obtain⟨p,hp,rfl⟩:=mem q hq;exact m.st _ (o.sub p hp)
 ·obtain⟨p,hp,rfl⟩:=mem q hq;show (0:Int)<=(p.2:Int);omega
 ·obtain⟨p,hp,rfl⟩:=mem q hq
  exact{λe=>(uni p.1).mp {o.sub p hp,e},λe=>by
   show au ins gs p.1=[]
   rw[show p.1=r from e];exact er}
 obtain⟨u,hu,rfl⟩:=mem q hq;have hx:=o.sub u hu;have lu:=o.long u hu;have hy:=m.closed hx hp;have b:=lu.at (m.st _ hx) hp;obtain⟨v,hv,ev⟩:=Qj.mp ((o.iff m hy).mpr {u.2,λos y r=>by have:=b os y r;omega});obtain⟨_,os,y,ry,el⟩:=o.long v hv;rw[ev]at ry;have:=b os y ry;refine{(v.2:Int),pm.mem_iff.mpr (Qj.mpr {v,hv,by rw[<-ev]}),?_};show (v.2:Int)<(u.2:Int);omega
theorem ShOk.bool (a:ShOk ins gs z r qs):shB ins gs z r qs=true:=by
 have h1:wt qs=true:=QN.mpr λq hq=>Xc (a.pos q hq)
 have h2:km (aq ins gs).length (qs.map (·.1))=true:=by
  unfold km;rw[Xm,QN,h_];refine{λx hx=>?_,a.nd,a.so};obtain⟨q,hq,rfl⟩:=Qj.mp hx;exact nr.mpr (a.st q hq)
 have h3:d5 ins gs (qs.map (·.1))=true:=f_.mpr λx hx p hp=>by
  obtain⟨q,hq,rfl⟩:=Qj.mp hx;obtain⟨n,hn,_⟩:=a.fall q hq p hp;exact Qj.mpr ⟨_,hn,rfl⟩
 have h4:mP ins gs qs=true:=QN.mpr λq hq=>QN.mpr λp hp=>by
  obtain⟨n,hn,l⟩:=a.fall q hq p hp;have:=ir a.nd hn;rw[this];exact Xc l
 have h5:((qs.map (·.1)).filter λh=>decide ((au ins gs h).length=0))=[r]:=kA (a.nd.filter _) λx=>by
  rw[List.mem_filter,XC,Xl];refine{λ⟨hx,e⟩=>?_,λe=>?_}
  ·obtain⟨q,hq,rfl⟩:=Qj.mp hx;exact(a.rest q hq).mp e
  subst e;obtain⟨q,hq,e⟩:=Qj.mp a.rin;refine{a.rin,?_};rw[<-e];exact(a.rest q hq).mpr e
 unfold shB;rw[h1,h2,h3,h4,Xc a.zin,Xc h5];rfl
end
def vv (TL:Addr):Sp:=λvs H Q _=>∃a li lg ins gvs gs z,vs=[.ref a,.str z]/\NAt H a li lg ins gvs gs/\NetOk ins gs/\StOk (aq ins gs).length z/\fK TL eT H /\
 (∀(r:Str) (xs:List Str) H',Tk TL H H'->Met ins gs z xs->fq ins gs z r->Q (.str r) H')/\(∀(xs:List Str) H',Tk TL H H'->Met ins gs z xs->(∀r,¬fq ins gs z r)->Q .non H')
def jM (TL:Addr):Sp:=λvs H Q _=>∃a li lg ins gvs gs z,vs=[.ref a,.str z]/\NAt H a li lg ins gvs gs/\NetOk ins gs/\StOk (aq ins gs).length z/\fK TL eT H /\
 (∀(r:Str) (p:Addr) (bs:F4) (qs:F6) H',Tk TL H H'->H p=none->fq ins gs z r->jg ins gs z qs->qs.length<=128->iC H' p bs qs->Q (.ref p) H')/\(∀H',Tk TL H H'->(∀r,¬fq ins gs z r)->Q .non H')
theorem r_eqNil (hl:H l=some (.lst us)) (q:∀H',ao H H'->Q (.bl (us.length==0)) H'):t_ dW U H λy H2=>pT K false (.ref l) y H2 Q:=by
 refine cA (aC {by simp[sizeLine],λp hp=>?_});refine{l,p,us,[],λ_=>true,rfl,rfl,SqL.of (ag hp _ _ hl),SqL.of af,(λj x y _ h=>by simp at h),?_};rw[QI Qn,show (us.length==([]:List V).length&&(List.range us.length).all λ_=>true)=(us.length==0) by simp];exact q _ (ag hp)
theorem yp (q:tl U H λx H1=>∃a kvs,x=.ref a/\H1 a=some (.dK kvs)/\∀r,H1 r=none->Q (.ref r) (upd H1 r (cR (o8 a)))):vi tl U H Q:=q
section
theorem pJ:FnScope ["net", "standing", "found", "rests"] ["net", "standing"] (aB (top 27)):=by fin2
variable {f TL:Addr}
theorem AB {fd:FuncData} (Fu:Fun K "one_rest" "one_rest" (top 27) f fd) (T:Txt K mg TT) (f_check_standing:Fn P w K mg base "check_standing" ["net", "thing"] 3 (ny .non)) (f_steps_found:Fn P w K mg base "steps_found" ["net", "standing"] 15 (gh TL)) (f_rests_in:Fn P w K mg base "rests_in" ["steps"] 1 eY) (f_most_switchings:Fn P w K mg base "most_switchings" ["found"] 2 qV) :
  FnOk P w K mg base CX0 16 f fd ["net", "standing"] (vv TL):=by
 have S:=pJ;refine Fu.ok S (by room) (λcdv A outer s H vs Q E hr h=>?_);obtain⟨a,li,lg,ins,gvs,gs,z,rfl,NA,ok,st,tb,k1,k2⟩:=h;have hu:=du hr;refine'{?_,?bb,?_}
 case bb =>
  walk_at "b";exact(bB (aS f_check_standing hr (aa (pv 0) (aa (pv 1) ad ai) ai)));exact aF 2 S.nd (aS f_steps_found hr (aa (pv 0) (aa (pv 1) ad ai) ai));exact aF 3 S.nd (aS f_rests_in hr (aa (pv 2) ad ai));exact(PW.pt (ij (aM ku (aE aI (by rfl) T.n_len QJ (aa (pv 3) ad ai)) ae (aP _)) (fP (iL (d8 hu (pv 1) (aS f_most_switchings hr (aa (pv 2) ad ai)))))));exact(aK kj);exact(aK (aD aH (pv 3) ae))
 x_go;lk;refine{a,li,lg,ins,gvs,gs,z,rfl,NA,ok,st,λH0 S0=>?_};have NA0:=NA.same S0;have tb0:=cQ tb S0;lk;refine{a,li,lg,ins,gvs,gs,z,rfl,NA0,ok,st,tb0,λF as n H1 t1 hF0 ln las hF1 sts=>?_};obtain⟨xs,exs,lxs,met,few⟩:=rJ ok st ln;rw[exs]at hF1 sts;have t01:Tk TL H H1:=(Tk.of tb S0).trans t1;have sd:SD H1 F ins gs xs:={as,.inl hF1,⋯,λi x b e1 e2=>sts i (Sum.inr x) b (cU.mpr ⟨x,e1,rfl⟩) e2};lk;refine{F,xs,as,λh=>(au ins gs h).length,rfl,.inl hF1,⋯,few,met.nd,λi x b e1 e2=>?_,λRs ss H2 S2 hp pm so hp2=>?_}
 ·obtain⟨vs,h1,h2⟩:=sts i (Sum.inr x) b (cU.mpr ⟨x,e1,rfl⟩) e2;exact{vs,h1,by have:=aQ h2;unfold stN cN at this;rwa [Qa]at this}
 have t02:Tk TL H H2:=t01.trans (Tk.of t01.tab S2);obtain⟨ndr,rmem⟩:=mC met pm;generalize (ss.filter λh=>decide ((au ins gs h).length=0))=rs at *
 have non:∀{r},fq ins gs z r->rs=[r]/\∃n,cY ins gs z n:=λ{r} ⟨ys,m',h,l⟩=>by
  have:=met.one m';subst this;exact{kA ndr λx=>(rmem x).trans (h x),l}
 lk;rw[Qa];by_cases c1:rs.length=1
 ·refine ifF (by rw[c1];rfl) ?_;refine i_test (fg (aj rfl ?_));lk;refine{F,ins,gs,z,xs,rfl,sd.same S2,met,ok,λN ps H3 S3 hN0 hN num=>?_};have t03:Tk TL H H3:=t02.trans (Tk.of t02.tab S3);have dg:cK H3 N (.str z) (bh (ff ps) (Sum.inr z)):=.inl {_,Sum.inr z,.inl hN,rfl,rfl};refine{N,_,rfl,dg,_,rfl,?_};by_cases c2:z∈ps.map (·.1)
  ·refine ifF ?_ ?_
   ·cases q:bh (ff ps) (Sum.inr z) with
    | none=>exact absurd c2 (fe.mp q)
    | some _=>rfl
   obtain⟨r,er⟩:∃r,rs=[r]:=List.length_eq_one_iff.mp c1;subst er;lk;refine bd (SqL.of (S3 _ _ hp2)) (bQ (j:=0) rfl) (k1 r xs H3 t03 met {xs,met,λx=>(rmem x).symm.trans Qr,(num.long_of met met.start).mp c2})
  refine ifT (by rw[fe.mpr c2];rfl) ?_;lk;exact k2 xs H3 t03 met λr o=>c2 ((num.long_of met met.start).mpr (non o).2)
 refine ifT (by simpa using λz=>c1 ⋯) ?_;lk;exact k2 xs H2 t02 met λr o=>c1 (by rw[(non o).1];rfl)
theorem lP:FnScope ["net", "standing", "found", "numbers"] ["net", "standing"] (aB (top 28)):=by fin2
theorem uB {fd:FuncData} (Fu:Fun K "rest_paper" "rest_paper" (top 28) f fd) (T:Txt K mg TT) (f_check_standing:Fn P w K mg base "check_standing" ["net", "thing"] 3 (ny .non)) (f_steps_found:Fn P w K mg base "steps_found" ["net", "standing"] 15 (gh TL)) (f_rests_in:Fn P w K mg base "rests_in" ["steps"] 1 eY) (f_most_switchings:Fn P w K mg base "most_switchings" ["found"] 2 qV) :
  FnOk P w K mg base CX0 16 f fd ["net", "standing"] (jM TL):=by
 have S:=lP;refine Fu.ok S (by room) (λcdv A outer s H vs Q E hr h=>?_);obtain⟨a,li,lg,ins,gvs,gs,z,rfl,NA,ok,st,tb,k1,k2⟩:=h;have hu:=du hr;refine'{?_,?bb,?_}
 case bb =>
  walk_at "b";exact(bB (aS f_check_standing hr (aa (pv 0) (aa (pv 1) ad ai) ai)));exact aF 2 S.nd (aS f_steps_found hr (aa (pv 0) (aa (pv 1) ad ai) ai));exact aF 3 S.nd (aS f_most_switchings hr (aa (pv 2) ad ai));exact(PW.pt (ij (aM ku (aE aI (by rfl) T.n_len QJ (aa (aS f_rests_in hr (aa (pv 2) ad ai)) ad se_call)) ae (aP _)) (fP (iL (d8 hu (pv 1) (pv 3))))));exact(aK kj);exact(aK (aE (sj rfl) (by rfl) T.n_sorted Xq (aa (vS (pv 3)) ad se_call)))
 x_go;lk;refine{a,li,lg,ins,gvs,gs,z,rfl,NA,ok,st,λH0 S0=>?_};have NA0:=NA.same S0;have tb0:=cQ tb S0;lk;refine{a,li,lg,ins,gvs,gs,z,rfl,NA0,ok,st,tb0,λF as n H1 t1 hF0 ln las hF1 sts=>?_};obtain⟨xs,exs,lxs,met,few⟩:=rJ ok st ln;rw[exs]at hF1 sts;have t01:Tk TL H H1:=(Tk.of tb S0).trans t1;have sd:SD H1 F ins gs xs:={as,.inl hF1,⋯,λi x b e1 e2=>sts i (Sum.inr x) b (cU.mpr ⟨x,e1,rfl⟩) e2};lk;refine{F,ins,gs,z,xs,rfl,sd,met,ok,λN ps H2 S2 hN0 hN num=>?_};obtain⟨as2,r2,las2,sts2⟩:=sd.same S2;lk;refine{F,xs,as2,λh=>(au ins gs h).length,rfl,r2,las2,few,met.nd,λi x b e1 e2=>?_,λRs ss H3 S3 hp pm so hp2=>?_}
 ·obtain⟨vs,h1,h2⟩:=sts2 i x b e1 e2;exact{vs,h1,by have:=aQ h2;unfold cN at this;rwa [Qa]at this}
 have t03:Tk TL H H3:=(t01.trans (Tk.of t01.tab S2)).trans (Tk.of (cQ t01.tab S2) S3);obtain⟨ndr,rmem⟩:=mC met pm;generalize (ss.filter λh=>decide ((au ins gs h).length=0))=rs at *
 have non:∀{r},fq ins gs z r->rs=[r]/\∃n,cY ins gs z n:=λ{r} ⟨ys,m',h,l⟩=>by
  have:=met.one m';subst this;exact{kA ndr λx=>(rmem x).trans (h x),l}
 have hN3:=S3 _ _ hN;lk;rw[Qa];by_cases c1:rs.length=1
 case neg =>
  refine ifT (by simpa using λz=>c1 ⋯) ?_;lk;exact k2 H3 t03 λr o=>c1 (by rw[(non o).1];rfl)
 refine ifF (by rw[c1];rfl) ?_;have dg:cK H3 N (.str z) (bh (ff ps) (Sum.inr z)):=.inl {_,Sum.inr z,.inl hN3,rfl,rfl};refine i_test (fg (aj rfl (aj rfl {N,_,rfl,dg,_,rfl,?_})));by_cases c2:z∈ps.map (·.1)
 case neg =>
  refine ifT (by rw[fe.mpr c2];rfl) ?_;lk;exact k2 H3 t03 λr o=>c2 ((num.long_of met met.start).mpr (non o).2)
 refine ifF ?_ ?_
 ·cases q:bh (ff ps) (Sum.inr z) with
  | none=>exact absurd c2 (fe.mp q)
  | some _=>rfl
 obtain⟨r,er⟩:∃r,rs=[r]:=List.length_eq_one_iff.mp c1;subst er
 have lps:ps.length<=xs.length:=by
  have:=Bf.pigeon (ps.map (·.1)) xs num.nd λx hx=>by
   obtain⟨p,hp,rfl⟩:=Qj.mp hx;exact num.sub p hp
  rwa [Qa]at this
 have f7:=met.few7 ok;refine ck (dN (ak (yp (aj rfl {N,_,rfl,hN3,λv hv=>aC ?_}))));ctx_has H3 v H4 S4 q4 aJ hv;refine{v,N,ps.map λ(p:Str × Nat)=>((p.1,(p.2:Int)):Str × Int),rfl,q4,S4 _ _ hN3,by rw[Qa];omega,λe=>?_,λp bs kf H5 S5 hp5 pm5 so5 tup hl=>?_}
 ·rw[List.map_eq_nil_iff]at e;rw[e]at c2;cases c2
 have t04:=t03.trans (Tk.of t03.tab S4);have lb:=pm5.length_eq;rw[Qa,Qa]at lb;refine k1 r p bs (bs.map kf) H5 (t04.trans (Tk.of t04.tab S5)) (t04.free hp5) {xs,met,λx=>(rmem x).symm.trans Qr,(num.long_of met met.start).mp c2} {xs,ps,met,num,pm5,XJ.mpr so5} (by rw[Qa];omega) {hl,by rw[Qa],λi b q e1 e2=>?_};rw[Qi,e1]at e2;cases e2;exact tup b (Qg e1)
end
section
variable {ins:List Str} {gs:F5} {z r:Str} {qs:F6}
theorem xC (h:shB ins gs z r qs=true):ShOk ins gs z r qs:=by
 unfold shB at h;simp only[Xm]at h;obtain⟨⟨⟨⟨⟨h1,h2⟩,h3⟩,h4⟩,h5⟩,h6⟩:=h;obtain⟨sts,nd,so⟩:=vV h2;have cl:=f_.mp h4;have h6:=XI h6
 have rmem:∀x,x∈qs.map (·.1)/\(au ins gs x).length=0↔x=r:=λx=>by
  rw[<-Qr (a:=x) (b:=r),<-h6,List.mem_filter,XC]
 refine{nd,so,XI h3,((rmem r).mpr rfl).1,λq hq=>sts _ (Qj.mpr ⟨q,hq,rfl⟩),λq hq=>XI (QN.mp h1 q hq),λq hq=>?_,λq hq p hp=>?_}
 ·rw[<-rmem,Xl];exact{λe=>{Qj.mpr ⟨q,hq,rfl⟩,e},λe=>e.2}
 obtain⟨n,hn,e⟩:=qw nd (cl q.1 (Qj.mpr ⟨q,hq,rfl⟩) p hp);have l:=QN.mp (QN.mp h5 q hq) p hp;rw[e]at l;exact{n,hn,XI l}
theorem ShOk.run (a:ShOk ins gs z r qs) {x y:Str} {os:List Str} (ru:Run ins gs x os y):∀n,(x,n)∈qs->∃m,(y,m)∈qs/\m+os.length<=n:=by
 induction ru with
 | nil=>exact λn h=>{n,h,by simp}
 | cons s _ _ ih =>
 intro n h;obtain⟨k,hk,lk⟩:=a.fall _ h _ s;obtain⟨m,hm,lm⟩:=ih k hk;refine{m,hm,?_};have lk:k<n:=lk;rw[QS];omega
theorem ShOk.num (a:ShOk ins gs z r qs):∃n,(z,n)∈qs:=by
 obtain⟨q,hq,e⟩:=Qj.mp a.zin;exact{q.2,by rw[<-e];exact hq}
theorem ShOk.one (a:ShOk ins gs z r qs) (ok:NetOk ins gs) (st:StOk (aq ins gs).length z):fq ins gs z r:=by
 obtain⟨xs,m⟩:=wy ok st;obtain⟨n,hn⟩:=a.num
 obtain⟨k,l⟩:=oo n.toNat λos y ru=>by
  obtain⟨j,hj,lj⟩:=a.run ru n hn;have:=a.pos _ hj;have:0<=j:=this;omega
 have key:∀{os y},Run ins gs z os y->au ins gs y=[]->y=r:=λ{os y} ru e=>by
  obtain⟨j,hj,_⟩:=a.run ru n hn;exact(a.rest _ hj).mp e
 refine{xs,m,λx=>{λ⟨hx,e⟩=>?_,λe=>?_},k,l}
 ·obtain⟨os,ru⟩:=m.to hx;exact key ru e
 obtain⟨os,y,ru,e2⟩:=l.stop st;have:=key ru e2;subst this;subst e;exact{m.runs ru m.start,e2}
end
def PrW (H:Hp) (lo hi:Nat) (v:V):Prop:=∃(b:Addr) (s:Str) (i:Int),v=.ref b/\H b=some (.tup [.str s,.int i])/\lo<=s.length/\s.length<=hi
def PW (H:Hp) (lo hi n:Nat) (p:Addr):Prop:=∃vs:List V,H p=some (.lst vs)/\lo<=vs.length/\vs.length<=n/\∀v∈vs,PrW H lo hi v
theorem PrW.mono (k:∀b xs,H b=some (.tup xs)->H' b=some (.tup xs)) (h:PrW H lo hi v):PrW H' lo hi v:=by
 obtain⟨b,s,i,e,hb,l⟩:=h;exact{b,s,i,e,k _ _ hb,l}
theorem PW.mono (kl:∀xs,H p=some (.lst xs)->H' p=some (.lst xs)) (k:∀b xs,H b=some (.tup xs)->H' b=some (.tup xs)) (h:PW H lo hi n p):PW H' lo hi n p:=by
 obtain⟨vs,hp,l1,l2,hv⟩:=h;exact{vs,kl _ hp,l1,l2,λv hv'=>(hv v hv').mono k}
theorem PW.same (S:ao H H') (h:PW H lo hi n p):PW H' lo hi n p:=h.mono (λxs e=>S _ _ e) λb xs e=>S _ _ e
theorem PW.upd {H:Hp} {lo hi n:Nat} {p L:Addr} {us:List V} {o:HO} (hL:H L=some (.lst us)) (ne:p≠L) (h:PW H lo hi n p):PW (upd H L o) lo hi n p :=
 h.mono (λxs e=>by rw[am ne];exact e) λb xs e=>by rw[am λz=>by rw[z,hL]at e;cases e];exact e
theorem sR {i:Int} (S:ao H3 H4) (ht:H4 t=none) (hd:H3 L=some (.lst ys)) (all:∀v∈ys,PrW H3 lo hi v) (l1:lo<=x.length) (l2:x.length<=hi) :
  ∀v∈ys++[V.ref t],PrW (upd (upd H4 t (.tup [.str x,.int i])) L (.lst (ys++[V.ref t]))) lo hi v:=λv hv=>by
 have hd4:=S _ _ hd;have tL:t≠L:=λe=>by rw[e,hd4]at ht;cases ht
 rcases Qp.mp hv with h|h
 ·refine(all v h).mono λb xs e=>?_;have e4:=S _ _ e;rw[am (λz=>by rw[z,hd]at e;cases e),am (λz=>by rw[z,ht]at e4;cases e4)];exact e4
 rw[Qr]at h;exact{t,x,i,h,by rw[am tL];exact af,l1,l2}
theorem nR:∀{vs:List V} {H:Hp} {lo hi:Nat},(∀v∈vs,PrW H lo hi v)->∃bs:F4,vs=bs.map V.ref/\∀b∈bs,∃q:Str × Int,H b=some (.tup [.str q.1,.int q.2])/\lo<=q.1.length/\q.1.length<=hi
 | [],_,_,_,_=>{[],rfl,by simp}
 | v::vs,H,lo,hi,h=>by
  obtain⟨b,s,i,e,hb,l⟩:=h v (by simp);obtain⟨bs,e2,h2⟩:=nR (vs:=vs) λw hw=>h w (by simp[hw]);refine{b::bs,by rw[e,e2];rfl,λc hc=>?_};rcases QO.mp hc with z|z
  ·rw[z];exact{(s,i),hb,l}
  exact h2 c z
def pc (H:Hp) (b:Addr):Str × Int:=match H b with
 | some (.tup [.str x,.int n])=>(x,n)
 | _=>("", 0)
theorem ni {q:Str × Int} (e:H b=some (.tup [.str q.1,.int q.2])):pc H b=q:=by
 unfold pc;rw[e]
theorem PW.pap (h:PW H lo hi n p):∃(bs:F4) (qs:F6),iC H p bs qs/\lo<=qs.length/\qs.length<=n/\(∀q∈qs,lo<=q.1.length/\q.1.length<=hi)/\∀b∈bs,H b=some (.tup [.str (pc H b).1,.int (pc H b).2]):=by
 obtain⟨vs,hp,l1,l2,hv⟩:=h;obtain⟨bs,rfl,hb⟩:=nR hv;rw[Qa]at l1 l2
 have hk:∀b∈bs,H b=some (.tup [.str (pc H b).1,.int (pc H b).2]):=λb hb'=>by
  obtain⟨q,e,_⟩:=hb b hb';rw[ni e];exact e
 refine{bs,bs.map (pc H),{hp,by rw[Qa],λi b q e1 e2=>?_},by rw[Qa];exact l1,by rw[Qa];exact l2,λq hq=>?_,hk}
 ·rw[Qi,e1]at e2;cases e2;exact hk b (Qg e1)
 obtain⟨b,hb',rfl⟩:=Qj.mp hq;obtain⟨q,e,l⟩:=hb b hb';rw[ni e];exact l
def FnW (H:Hp) (L:Addr) (n:Nat):Prop:=∃ps:F4,H L=some (.lst (ps.map V.ref))/\ps.length<=n/\∀b∈ps,b≠L/\PW H 1 11 128 b
theorem FnW.keep (kl:∀b xs,H b=some (.lst xs)->H' b=some (.lst xs)) (k:∀b xs,H b=some (.tup xs)->H' b=some (.tup xs)) (h:FnW H L n):FnW H' L n:=by
 obtain⟨ps,hL,l,hp⟩:=h;exact{ps,kl _ _ hL,l,λb hb=>{(hp b hb).1,(hp b hb).2.mono (kl b) k} }
theorem FnW.same (S:ao H H') (h:FnW H L n):FnW H' L n:=h.keep (λb xs e=>S _ _ e) λb xs e=>S _ _ e
theorem FnW.put {n:Nat} (h:FnW H L n) (ne:b≠L) (hb:PW H 1 11 128 b):∃us,H L=some (.lst us)/\us.length<=n/\FnW (upd H L (.lst (us++[V.ref b]))) L (n+1):=by
 obtain⟨ps,hL,l,hp⟩:=h;refine{_,hL,by rw[Qa];exact l,ps++[b],by rw[Qt];exact af,by rw[Qk];exact Nat.succ_le_succ l,λc hc=>?_};rcases Qp.mp hc with z|z
 ·exact{(hp c z).1,(hp c z).2.upd hL (hp c z).1}
 rw[Qr]at z;rw[z];exact{ne,hb.upd hL ne}
def pA (TL:Addr):Sp:=λvs H Q _=>∃(a li lg:Addr) (ins:List Str) (gvs:List V) (gs:F5) (z:Str) (d:Addr) (ds:List Int) (spot:Int),vs=[.ref a,.str z,.ref d,.int spot]/\NAt H a li lg ins gvs gs/\NetOk ins gs/\StOk (aq ins gs).length z/\H d=some (.lst (ds.map V.int))/\DOk ds/\0<=spot/\spot<=100/\fK TL eT H /\
 ∀L H',Tk TL H H'->FnW H' L 5->Q (.ref L) H'
theorem qT (ok:NetOk ins gs) (st:StOk (aq ins gs).length x):1<=x.length/\x.length<=11:=by
 have:x.length=(aq ins gs).length:=st.len;have:=ok.i4;have:=ok.g7;have:=ok.g1;rw[bZ] at *;omega
theorem AT (q:tl U H λx H1=>∃a kvs,x=.ref a/\H1 a=some (.dK kvs)/\∀r,H1 r=none->Q (.ref r) (upd H1 r (cR (o9 a)))):yG tl U H Q:=q
def LvV (xs:List Str) (H:Hp) (v:V):Prop:=v=.non\/∃D qs,v=.ref D/\H D=some (.dK (bu qs))/\LvD xs qs
theorem rO {E:XK} (h:∃(F:Addr) (ins:List Str) (gs:F5) (z:Str) (ys xs:List Str) (ls:F4),vs=[.ref F,.str z]/\WD H F ins gs ys ls/\Met ins gs z xs/\NetOk ins gs/\ys.Perm xs/\∀v H',ao H H'->LvV xs H' v->Q v H'):jN vs H Q E:=by
 obtain⟨F,ins,gs,z,ys,xs,ls,e,wd,m,ok,pm,k⟩:=h;exact{F,ins,gs,z,ys,xs,ls,e,wd,m,ok,pm,λd qs H' S _ hd lv=>k _ _ S (.inr ⟨d,qs,rfl,hd,lv⟩),λH' S _=>k _ _ S (.inl rfl)}
def PpV (H H':Hp) (v:V):Prop:=v=.non\/∃p,v=.ref p/\H p=none/\PW H' 1 11 128 p
theorem uo {E:XK} (h:∃a li lg ins gvs gs z,vs=[.ref a,.str z]/\NAt H a li lg ins gvs gs/\NetOk ins gs/\StOk (aq ins gs).length z/\fK TL eT H/\∀v H',Tk TL H H'->PpV H H' v->Q v H'):jM TL vs H Q E:=by
 obtain⟨a,li,lg,ins,gvs,gs,z,e,NA,ok,st,tb,k⟩:=h;refine{a,li,lg,ins,gvs,gs,z,e,NA,ok,st,tb,λr p bs qs H' t hp one po lq pp=>k _ _ t (.inr {p,rfl,hp,?_}),λH' t _=>k _ _ t (.inl rfl)};have sh:=po.shows one;obtain⟨h1,lb,h2⟩:=pp;refine{_,h1,?_,by rw[Qa];omega,λv hv=>?_}
 ·have:0<qs.length:=List.length_pos_iff.mpr λe=>by have:=sh.zin;rw[e]at this;simp at this
  rw[Qa];omega
 obtain⟨b,hb,rfl⟩:=Qj.mp hv;obtain⟨i,hi,e⟩:=Qo.mp hb;obtain⟨q,eq⟩:∃q,qs[i]?=some q:={_,Qc ⋯};exact{b,q.1,q.2,rfl,h2 i b q (by rw[Qc hi,e]) eq,qT ok (sh.st q (Qg eq))}
theorem kW {blk:St->St} (hσ:U[i]?=some (some (.ref p))) (hp:H p=some (.lst (ss.map V.str))) (ne:1<=ss.length) (few:ss.length<=128) (ln:∀{x},x∈ss->1<=x.length/\x.length<=11) (hwk:∀x,wk (blk U) ((blk U).set 0 (some x))) (h0:∀x,((blk U).set 0 (some x))[0]?=some (some x))
  (hte:∀x∈ss,∀H' (Q':VK),ao H H'->(∀n,Q' (.int n) H')->te ((blk U).set 0 (some (.str x))) H' Q') (q:∀L H',ao H H'->H L=none->PW H' 1 11 128 L->Q (.ref L) H'):iZ (mN K (bV i)) (eE 0) gL (nj (bj (bV 0) (bj te dW))) blk U H Q:=by
 have big:1000<sizeLine:=by decide
 refine bR (s_list (aj hσ {p,rfl,{_,SqL.of hp},λL hL=>?_}));refine cg (xs:=ss.map V.str) (λm H' us=>ao H H'/\H' L=some (.lst us)/\us.length=m/\∀v∈us,PrW H' 1 11 v) {ag hL,af,rfl,λv h=>nomatch h} (λm H' us p=>{p.2.1,SqL.of (p.1 _ _ hp)}) (λm v H' us e p=>?_) (λH6 us p6=>?_)
 ·obtain⟨SH,hd',lu,all⟩:=p;rw[Qi]at e
  cases ex:ss[m]? with
  | none=>rw[ex]at e;cases e
  | some x =>
  rw[ex]at e;cases e;have hm:m<ss.length:=(Qe.mp ex).1;have hx:=Qg ex;refine az {hwk _,i_yes (b9 (i_tup (ak (aj (h0 _) (ak (hte x hx H' _ SH λn=>aC {by simp[sizeLine],λt ht=>?_}))))))};refine b8.mk (ag ht _ _ hd') (by rw[Qa];exact hm) ⋯ {aN (SH.trans (ag ht)) hL,af,by rw[Qk,lu];rfl,sR (ao.refl _) ht hd' all (ln hx).1 (ln hx).2}
 obtain⟨S6,hd6,lu,all⟩:=p6;rw[Qa]at lu;exact q L H6 S6 hL {us,hd6,⋯,⋯,all}
section
theorem lQ:FnScope ["net", "standing", "d", "spot", "ways", "known", "rows", "found", "told", "far"] ["net", "standing", "d", "spot"] (aB (top 48)):=by fin2
theorem uA {TL:Addr} {f:Addr} {fd:FuncData} (Fu:Fun K "_law_papers" "_law_papers" (top 48) f fd) (T:Txt K mg TT) (f_law_ways:Fn P w K mg base "_law_ways" ["net", "standing"] 12 qU) (f_law_levels:Fn P w K mg base "_law_levels" ["ways", "standing"] 1 jN) (f_rest_paper:Fn P w K mg base "rest_paper" ["net", "standing"] 16 (jM TL)):FnOk P w K mg base CX0 17 f fd ["net", "standing", "d", "spot"] (pA TL):=by
 have S:=lQ;refine Fu.ok S (by room) (λcdv A outer s H vs Q E hr h=>?_);obtain⟨a,li,lg,ins,gvs,gs,z,d,ds,spot,rfl,NA,ok,st,hd,dok,s0,s1,tb,k⟩:=h;have hu:=du hr;refine'{?_,?bb,?_}
 case bb =>
  walk_at "b";exact aF 4 S.nd (aS f_law_ways hr (aa (pv 0) (aa (pv 1) ad ai) ai));exact aF 5 S.nd (aS f_law_levels hr (aa (pv 4) (aa (pv 1) ad ai) ai));exact aF 6 S.nd (aE (gY rfl) (by rfl) T.n_sorted Xq (aa (pv 4) ad ai));refine' aF 7 S.nd ?e
  case e =>
   walk_at "q";exact(dq "k" [("rows", 6),("d", 2),("spot", 3)] (ce (by rfl) T.n_range (aa (aE aI (by rfl) T.n_len QJ (aa (pv 6) ad ai)) ad se_call)) (λ_ _ _ _=>(bq (aa (aD (dM (K:=K) rfl) (pv 1) (pv 0)) (aa (ap aR (aD (dM (K:=K) rfl) (pv 2) (ap aO (pv 3) (ap aR (pv 0) ae))) (aD (dM (K:=K) rfl) (aY (aa ae (aa ae (aa ae ad aL) aL) aL)) (ap aR (aD (dM (K:=K) rfl) (pv 2) (pv 3)) ae))) ad)))))
  refine' bB (cL QB QC QE a7 (pv 7) ?a)
  case a =>
   walk_at "q";exact(dq "one" [("ways", 4)] (bx (pv 6)) (λ_ _ _ _=>(bq (aa (pv 0) (aa (aE (dJ (K:=K) rfl) (by rfl) T.n_len QJ (aa (bG hu (pv 1) (pv 0)) ad)) ad se_call) ai))))
  exact aF 8 S.nd (aS f_rest_paper hr (aa (pv 0) (aa (pv 1) ad ai) ai));exact(aM sY (pv 8) kj rfl);exact(bB (cL QB QC QE a7 (pv 7) (aa (gr iB (by rfl) T.n_list PyProof.Rows.boot_list (aa (pv 8) ad ai)) ad se_call)));exact(aM sY (pv 5) kj rfl);exact aF 9 S.nd (ap aO (ap aR (aD aH (pv 2) (ap aO (pv 3) ae)) ae) (aE (u6 rfl) (by rfl) T.n_max PyProof.Rows.boot_max (aa (xK (pv 5)) ad se_call)));refine' bB (cL QB QC QE a7 (pv 7) ?a)
  case a =>
   walk_at "q";exact(dq "one" [("far", 9),("known", 5)] (bx (pv 6)) (λ_ _ _ _=>(bq (aa (pv 0) (aa (ap fV (pv 1) (bG hu (pv 2) (pv 0))) ad) ai))))
  refine' bB (cL QB QC QE a7 (pv 7) ?a)
  case a =>
   walk_at "q";exact(dq "one" [("d", 2),("far", 9),("spot", 3),("known", 5)] (bx (pv 6)) (λ_ _ _ _=>(bq (aa (pv 0) (aa (ap aO (ap dQ (ap fV (pv 2) (bG hu (pv 4) (pv 0))) (ap vX ae ae)) (aD (dM (K:=K) rfl) (pv 1) (ap aO (pv 3) ae))) ad) ai))))
  exact(aK (pv 7))
 x_go;kt_k;refine bp (bJ (ak (aj rfl (ak (aj rfl (aC ?_))))));refine{a,li,lg,ins,gvs,gs,z,rfl,NA,ok,st,λF ys xs ls H1 S1 hF0 met pm wd=>az ?_};have few:=met.few7 ok;have lys:=pm.length_eq;have ndy:=pm.nodup_iff.mpr met.nd;have hd1:=S1 _ _ hd;have NA1:=NA.same S1;have tb1:=cQ tb S1;obtain⟨hF,lls,hls⟩:=id wd;have sty:∀x∈ys,StOk (aq ins gs).length x:=λx hx=>met.st x (pm.mem_iff.mp hx);obtain⟨e1,e10,_,ea1⟩:=dh dok (i:=spot+1) ⋯ ⋯;obtain⟨e2,e20,e21,ea2⟩:=dh dok (i:=spot+2) ⋯ ⋯;obtain⟨e0,e00,_,ea0⟩:=dh dok (i:=spot) ⋯ ⋯;kt_k;refine bp (bJ (ak (aj rfl (ak (aj rfl (aC ?_))))));refine rO {F,ins,gs,z,ys,xs,ls,rfl,wd,met,ok,pm,λkn H2 S2 lvv=>az ?_};have hF2:=S2 _ _ hF;kt_k;refine bp (dN (ak (aj rfl (aC {F,ys,rfl,rW (.inl hF2) lls,⋯,λp ss hp pm2 so=>az ?_}))));ctx_has H2 p H3 S3 q3 aJ hp;have lss:=pm2.length_eq;have S13:=S2.trans S3;have hd3:=S13 _ _ hd1;have hF3:=S3 _ _ hF2;have sts:∀x∈ss,StOk (aq ins gs).length x:=λx hx=>sty x (pm2.mem_iff.mp hx)
 have ne:1<=ss.length:=by
  have:=List.length_pos_of_mem met.start;omega
 have lnx:∀{x},x∈ss->1<=x.length/\x.length<=11:=λhx=>qT ok (sts _ hx);have lvv3:LvV xs H3 kn:=lvv.imp id λ⟨D,qs,e,h,l⟩=>{D,qs,e,S3 _ _ h,l};clear lvv;kt_k;refine bp (cA (ak (bR (s_rng1 (ak (dN (ak (aj rfl (aC {p,_,rfl,.inl (SqL.of q3),aC {_,rfl,by rw[Qa];omega,by rw[Qa];omega,λL hL=>?_} })))))))));rw[Qa,Xh];refine fB (n:=ss.length) (λm H' us=>ao H3 H'/\H' L=some (.lst us)/\us.length=m/\∀v∈us,PrW H' 1 11 v) {ag hL,af,rfl,λv h=>nomatch h} (λm H' us p=>p.2.1) (λm H' us hm p=>?_) (λH4 us p4=>?_)
 ·obtain⟨SH,hd',lu,all⟩:=p;obtain⟨x,ex⟩:∃x,ss[m]?=some x:={_,Qc hm};obtain⟨l1,l2⟩:=lnx (Qg ex);have hdm:=SH _ _ hd3;have m0:0<=(0+(m:Int)) % 20:=by omega
  have m1:(0+(m:Int)) % 20<20:=by omega
  obtain⟨c,_,_,ec⟩:=dh dok (i:=spot+(0+(m:Int)) % 20) ⋯ ⋯;refine az {by repeat' (first|exact trivial|refine{rfl,?_}),i_yes (b9 ?_)};refine i_tup (ak (aV (aj rfl (aj rfl (bd (v:=.str x) (SqL.of (SH _ _ q3)) (by rw[show (0:Int)+(m:Int)=((m:Nat):Int) by omega];exact bQ (by rw[Qi,ex];rfl)) ?_)))));refine ak (aV (aV (aj rfl (aV (aj rfl (aV (aj rfl (i_c (dj (by decide) (cw (bd (SqL.of hdm) ec ?_)))))))))));refine aV (cA (ak (i_c (ak (i_c (ak (i_c (aC {by simp[sizeLine],λq hq=>?_}))))))));ctx_has H' q H5 S5 q5 aJ hq
  obtain⟨g,eg,gp⟩:∃g:Int,atI [V.int 3,V.int 9,V.int 200] (e0 % 3)=some (.int g)/\0<g:=by
   have:e0 % 3=0\/e0 % 3=1\/e0 % 3=2:=by omega
   rcases this with e|e|e <;> rw[e]
   ·exact{3,rfl,by decide}
   ·exact{9,rfl,by decide}
   exact{200,rfl,by decide}
  refine aV (aV (aj rfl (aj rfl (bd (SqL.of (S5 _ _ hdm)) ea0 (i_c (dj (by decide) (bd (SqL.of q5) eg (dj gp ?_))))))));refine aC {by simp[sizeLine],λt ht=>?_};have hd5:=S5 _ _ hd';have:=sR (i:=c % g) S5 ht hd' all l1 l2;refine b8.mk (ag ht _ _ hd5) hm ⋯ {?_,af,by rw[Qk,lu];rfl,this};exact aN ((SH.trans S5).trans (ag ht)) hL
 obtain⟨S4,hd4,lu,all⟩:=p4;have pw4:PW H4 1 11 128 L:={us,hd4,⋯,⋯,all};refine aC {by simp[sizeLine],λG hG=>az ?_};have GL:L≠G:=λe=>by rw[<-e,hd4]at hG;cases hG
 ctx_has H4 G H5 S5 q5 aJ hG;have f5:FnW H5 G 1:={[L],q5,by simp,λb hb=>by rw[Qr]at hb;rw[hb];exact{GL,pw4.same S5} };have S35:=S4.trans S5;have G3:H3 G=none:=ao.free S4 hG;clear hd4 all q5 pw4;have hd5:=S35 _ _ hd3;have q35:=S35 _ _ q3;have hF5:=S35 _ _ hF3;have hls5:∀(i:Nat) y l,ys[i]?=some y->ls[i]?=some l->H5 l=some (.lst ((nxS ins gs y).map V.str)):=λi y l e1 e2=>S35 _ _ (S13 _ _ (hls i y l e1 e2));have lvv5:LvV xs H5 kn:=lvv3.imp id λ⟨D,qs,e,h,l⟩=>{D,qs,e,S35 _ _ h,l};obtain⟨us5,hG5,_⟩:=id f5;kt_k;refine s_drop (i_bm (aj rfl {i_tyL hG5,ak ?_}));refine kW rfl q35 ne ⋯ lnx (λx=>by repeat' (first|exact trivial|refine{rfl,?_})) (λ_=>rfl) (λx hx H' Q' SH qn=>?_) λL H6 S6 hL pw6=>?_
 ·obtain⟨i,hi,exi⟩:=Qo.mp (pm2.mem_iff.mp hx);have f1:ys[i]?=some x:=by rw[Qc hi,exi]
  obtain⟨b,f2⟩:∃b,ls[i]?=some b:={_,Qc ⋯};exact dN (ak (i_dget (aj rfl (aj rfl {F,_,rfl,dZ (.inl (SH _ _ hF5)) ndy f1 f2,aC {b,_,rfl,.inl (SqL.of (SH _ _ (hls5 i x b f1 f2))),qn _} }))))
 have LG:L≠G:=λe=>by rw[e,hG5]at hL;cases hL
 obtain⟨us6,hG6,l6,f6⟩:=(f5.same S6).put LG pw6;refine aC (dr hG6 ⋯ ?_);have S36:ao H3 (upd H6 G (.lst (us6++[V.ref L]))):=aN (S35.trans S6) G3;generalize upd H6 G (.lst (us6++[V.ref L]))=H7 at *;clear hG6 hG5 hls5 hF5 q35 hd5 lvv5 f5;have S17:=S13.trans S36;have tb7:=cQ tb1 S17;have NA7:=NA1.same S17;have hd7:=S36 _ _ hd3;have q7:=S36 _ _ q3;have lvv7:LvV xs H7 kn:=lvv3.imp id λ⟨D,qs,e,h,l⟩=>{D,qs,e,S36 _ _ h,l};kt_k;refine bp (bJ (ak (aj rfl (ak (aj rfl (aC ?_))))));refine uo {a,li,lg,ins,gvs,gs,z,rfl,NA7,ok,st,tb7,λtv H8 t8 ppv=>az ?_};have f8:FnW H8 G 2:=f6.keep (t8.lst tb7) (t8.tup tb7);have tb8:=t8.tab;have t18:Tk TL H3 H8:=(Tk.of (cQ tb1 S13) S36).trans t8;have tb3:=cQ tb1 S13;have lvv8:LvV xs H8 kn:=lvv7.imp id λ⟨D,qs,e,h,l⟩=>{D,qs,e,t8.old _ _ h (pd tb7 h λ_ z=>nomatch z),l};let I43:IvJ:=λσ' H'=>σ'=[some (.ref a),some (.str z),some (.ref d),some (.int spot),some (.ref F),some kn,some (.ref p),some (.ref G),some tv,none]/\Tk TL H3 H'/\FnW H' G 3/\LvV xs H' kn;with_reducible refine c9 I43 (λR hR=>?_) (λσ' H9 pv=>?_)
 ·kt_k;refine i_test (aV (aj rfl (i_c {rfl,{_,rfl,?_} })));rcases ppv with e|⟨tp,e,tp0,tpw⟩
  ·subst e;refine ifF rfl ?_;refine hR _ _ {rfl,t18,?_,lvv8};obtain⟨ps,h1,h2,h3⟩:=f8;exact{ps,h1,⋯,h3}
  subst e;refine ifT rfl ?_;obtain⟨us8,hG8,_⟩:=id f8;obtain⟨vt,ht,lt1,lt2,at'⟩:=tpw;refine s_drop (i_bm (aj rfl {i_tyL hG8,ak (dN (ak (aj rfl (aC {tp,_,rfl,.inl (SqL.of ht),λc hc=>aC ?_}))))}));ctx_has H8 c H10 S10 q10 aJ hc;have cG:c≠G:=λe=>by rw[e,hG8]at hc;cases hc
  obtain⟨us9,hG9,l9,f9⟩:=(f8.same S10).put cG {vt,q10,lt1,lt2,λv hv=>(at' v hv).mono λb xs e=>S10 _ _ e};refine dr hG9 ⋯ ?_;refine hR _ _ {rfl,Tk.upd (t18.trans (Tk.of tb8 S10)) G3 hG9,f9,?_};exact lvv8.imp id λ⟨D,qs,e,h,l⟩=>{D,qs,e,by rw[am λzz=>by rw[zz,hG8]at h;cases h];exact S10 _ _ h,l}
 obtain⟨rfl,t39,f9,lvv9⟩:=pv;have tb9:=t39.tab;have hd9:=t39.lst tb3 _ _ hd3;have q9:=t39.lst tb3 _ _ q3;clear lvv8 lvv7 lvv3 ppv;let I44:IvJ:=λσ' H'=>(∃x9,σ'=[some (.ref a),some (.str z),some (.ref d),some (.int spot),some (.ref F),some kn,some (.ref p),some (.ref G),some tv,x9])/\Tk TL H3 H'/\FnW H' G 5;with_reducible refine c9 I44 (λR hR=>?_) (λσ' H9 pv=>?_)
 ·kt_k;refine i_test (aV (aj rfl (i_c {rfl,{_,rfl,?_} })));rcases lvv9 with e|⟨D,qs,e,hD,lq,lb⟩
  ·subst e;refine ifF rfl ?_;refine hR _ _ {⟨_,rfl⟩,t39,?_};obtain⟨ps,h1,h2,h3⟩:=f9;exact{ps,h1,⋯,h3}
  subst e;refine ifT rfl ?_;kt_k;refine bp (aV (aV (aV (aj rfl (aV (aj rfl (i_c (cw (bd (SqL.of hd9) ea1 (i_c (dj (by decide) ?_)))))))))));refine dN (ak (AT (aj rfl {D,_,rfl,hD,λr hr=>aC {r,D,qs,rfl,af,?_,?_,λM hM _=>cw (az ?_)} })))
  ·rw[am λe=>by rw[<-e,hD]at hr;cases hr];exact hD
  ·intro e;have:=lq z met.start;rw[e]at this;simp at this
  generalize hE:upd H9 r _=H10;obtain⟨S10,_⟩:=aJ hr hE;clear hE;obtain⟨qM,hqM,eM⟩:=hM;have bM:=lb qM hqM;rw[eM]at bM;generalize hfar:e1 % 5+M=far;have bf:0<=far/\far<=300:=by omega
  have f10:=f9.same S10;have hD10:=S10 _ _ hD;have q10:=S10 _ _ q9;have hd10:=S10 _ _ hd9;have t10:=t39.trans (Tk.of tb9 S10);obtain⟨us10,hG10,_⟩:=id f10;have DG:D≠G:=λe=>by rw[e,hG10]at hD10;cases hD10
  have pG:p≠G:=λe=>by rw[e,G3]at q3;cases q3
  have dG:d≠G:=λe=>by rw[e,G3]at hd3;cases hd3
  clear hfar;kt_k;refine s_drop (i_bm (aj rfl {i_tyL hG10,ak ?_}))
  have dgs:∀{x H'},x∈ss->H' D=some (.dK (bu qs))->∃n:Int,(0<=n/\n<=200)/\cK H' D (.str x) (some (.int n)):=λ{x H'} hx e=>by
   obtain⟨n,hn,ev⟩:=qx (lq x (pm.mem_iff.mp (pm2.mem_iff.mp hx)));exact{n,lb _ hn,.inl {_,Sum.inr x,.inl e,rfl,ev.symm} }
  refine kW rfl q10 ne ⋯ lnx (λx=>by repeat' (first|exact trivial|refine{rfl,?_})) (λ_=>rfl) (λx hx H' Q' SH qn=>?_) λL H11 S11 hL pw11=>?_
  ·obtain⟨n,_,dg⟩:=dgs hx (SH _ _ hD10);exact aV (aj rfl (i_dget (aj rfl (aj rfl {D,_,rfl,dg,cw (qn _)}))))
  have LG:L≠G:=λe=>by rw[e,hG10]at hL;cases hL
  obtain⟨us11,hG11,l11,f11⟩:=(f10.same S11).put LG pw11;refine aC (dr hG11 ⋯ ?_);have t11:Tk TL H3 (upd H11 G (.lst (us11++[V.ref L]))):=Tk.upd (t10.trans (Tk.of t10.tab S11)) G3 hG11;have q11:upd H11 G (.lst (us11++[V.ref L])) p=_:=(am pG).trans (S11 _ _ q10);have hd12:upd H11 G (.lst (us11++[V.ref L])) d=_:=(am dG).trans (S11 _ _ hd10);have hD12:upd H11 G (.lst (us11++[V.ref L])) D=_:=(am DG).trans (S11 _ _ hD10);generalize upd H11 G (.lst (us11++[V.ref L]))=H12 at *;clear hG11 hG10 hD10 hd10 q10 hL LG;obtain⟨us12,hG12,_⟩:=id f11;refine s_drop (i_bm (aj rfl {i_tyL hG12,ak ?_}));refine kW rfl q11 ne ⋯ lnx (λx=>by repeat' (first|exact trivial|refine{rfl,?_})) (λ_=>rfl) (λx hx H' Q' SH qn=>?_) λL H13 S13' hL pw13=>?_
  ·obtain⟨n,bn,dg⟩:=dgs hx (SH _ _ hD12);refine aV (aV (aV (aj rfl (i_dget (aj rfl (aj rfl {D,_,rfl,dg,cw ?_}))))));refine aV (i_c (i_c (dj {by decide,by decide,by decide} (dj (.inl {⋯,⋯}) ?_))));exact aV (aj rfl (aV (aj rfl (i_c (cw (bd (SqL.of (SH _ _ hd12)) ea2 (cw (qn _))))))))
  have LG:L≠G:=λe=>by rw[e,hG12]at hL;cases hL
  obtain⟨us13,hG13,l13,f13⟩:=(f11.same S13').put LG pw13;refine aC (dr hG13 ⋯ ?_);exact hR _ _ {⟨_,rfl⟩,Tk.upd (t11.trans (Tk.of t11.tab S13')) G3 hG13,f13}
 obtain⟨⟨x9,rfl⟩,t9,f⟩:=pv;exact ck (aj rfl (k _ _ ((Tk.of tb (S1.trans S13)).trans t9) f))
end
def MkP (H0:Hp) (U:St) (n:Nat) (te:TE):Prop:=∀(H:Hp) (Q:VK),ao H0 H->(∀p H',ao H H'->PW H' 0 30 n p->Q (.ref p) H')->te U H Q
def MkT (H0:Hp) (U:St) (te:TE):Prop:=∀(H:Hp) (Q:VK),ao H0 H->(∀v H',ao H H'->PrW H' 0 30 v->Q v H')->te U H Q
def MkA (H0:Hp) (U:St) (k:Nat) (ta:TA):Prop:=∀(H:Hp) (Q:List V->Hp->Prop),ao H0 H->(∀vs H',ao H H'->vs.length=k->(∀v∈vs,∃p,v=.ref p/\PW H' 0 30 400 p)->Q vs H')->ta U H Q
def MkO (U:St) (t:TO):Prop:=∀(H:Hp) (Q:Option Int->Hp->Prop),(∀o,Q o H)->t U H Q
section
variable {K:PySem.W.Frag} {H0:Hp} {U:St}
variable {i n m:Nat}
theorem kH {p:Addr} (e:U[i]?=some (some (.ref p))) (h:PW H0 0 30 n p):MkP H0 U n (bV i):=λH Q S q=>aj e (q p H (ao.refl _) (h.same S))
theorem tj {v:V} (e:U[i]?=some (some v)) (h:PrW H0 0 30 v):MkT H0 U (bV i):=λH Q S q=>aj e (q v H (ao.refl _) (h.mono λb xs e=>S _ _ e))
variable {te ta tb:TE}
theorem yg (h:MkP H0 U n te) (l:n<=m):MkP H0 U m te:=λH Q S q=>h H Q S λp H' S' ⟨vs,h1,h2,h3,h4⟩=>q p H' S' {vs,h1,h2,⋯,h4}
theorem dL:MkO U nk:=λH Q q=>i_nopart (q _)
theorem io {x:Int} (e:U[i]?=some (some (.int x))):MkO U (sE (bV i)):=λH Q q=>i_part (aj e (tG (q _)))
theorem og {x c:Int} (e:U[i]?=some (some (.int x))):MkO U (sE (tOp (rI0 λi j=>.int (i+j)) (bV i) (tC (.int c)))):=λH Q q=>i_part (aV (aj e (i_c (cw (tG (q _))))))
theorem i_ {p:Addr} {tl th:TO} (e:U[i]?=some (some (.ref p))) (h:PW H0 0 30 n p) (hl:MkO U tl) (hh:MkO U th):MkP H0 U n (tSl (Aa K) (bV i) tl th):=λH Q S q=>by
 obtain⟨vs,h1,h2,h3,h4⟩:=h.same S;refine i_sl (aj e (hl H _ λlo=>hh H _ λhi=>jc (SqL.of h1) λr hr=>?_));refine q r _ (ag hr) {_,af,QG _,QX jD.2 h3,λv hv=>(h4 v (jD.1 v hv)).mono λb xs e=>ag hr _ _ e}
theorem AG {p:Addr} (e:U[i]?=some (some (.ref p))) (h:PW H0 0 30 n p):MkP H0 U n (A6 K (bV i)):=λH Q S q=>by
 obtain⟨vs,h1,h2,h3,h4⟩:=h.same S;refine aj e {p,vs,rfl,SqL.of h1,λr hr=>?_};exact q r _ (ag hr) {_,af,QG _,by rw[List.length_reverse];exact h3,λv hv=>(h4 v (List.mem_reverse.mp hv)).mono λb xs e=>ag hr _ _ e}
theorem eS (ha:MkP H0 U n ta) (hb:MkP H0 U m tb) (l:n+m<=1000:=by decide):MkP H0 U (n+m) (tOp xF ta tb):=λH Q S q=>by
 refine aV (ha H _ S λp H1 S1 pw1=>hb H1 _ (S.trans S1) λp2 H2 S2 pw2=>?_);have big:100000<sizeLine:=by decide
 obtain⟨vs,h1,_,h3,h4⟩:=pw1.same S2;obtain⟨us,g1,_,g3,g4⟩:=pw2;refine gG h1 g1 ⋯ λr hr=>q r _ ((S1.trans S2).trans (ag hr)) {_,af,QG _,by rw[Qk];omega,λv hv=>?_};rcases Qp.mp hv with h|h
 ·exact(h4 v h).mono λb xs e=>ag hr _ _ e
 exact(g4 v h).mono λb xs e=>ag hr _ _ e
theorem iO (h:MkT H0 U te):MkP H0 U 1 (t_ (bj te dW)):=λH Q S q=>by
 refine cA (ak (h H _ S λv H1 S1 pv=>aC {by simp[sizeLine],λr hr=>?_}));refine q r _ (S1.trans (ag hr)) {_,af,QG _,Qh _,λw hw=>?_};rw[Qr]at hw;rw[hw];exact pv.mono λb xs e=>ag hr _ _ e
theorem oi (h:MkP H0 U n te) (l:n<=1000:=by decide):MkP H0 U n (tCB (vI K) (bj te dW)):=λH Q S q=>by
 refine dN (ak (h H _ S λp H1 S1 pw=>aC ?_));obtain⟨vs,h1,h2,h3,h4⟩:=pw;obtain⟨bs,rfl,hb⟩:=nR h4;rw[Qa]at h3;refine{p,bs,pc H1,rfl,SqL.of h1,λb hb'=>?_,⋯,λr bs' hr pm _=>?_}
 ·obtain⟨q,e,_⟩:=hb b hb';rw[ni e];exact e
 refine q r _ (S1.trans (ag hr)) {_,af,QG _,by rw[Qa,pm.length_eq];exact h3,λv hv=>?_};obtain⟨b,hb',rfl⟩:=Qj.mp hv;obtain⟨q,e,l⟩:=hb b (pm.mem_iff.mp hb');exact{b,q.1,q.2,rfl,ag hr _ _ e,l}
theorem oh:MkA H0 U 0 dW:=λH Q S q=>aC (q [] H (ao.refl _) rfl λv h=>nomatch h)
theorem de {k:Nat} {tr:TA} (h:MkP H0 U n te) (r:MkA H0 U k tr) (l:n<=400:=by decide):MkA H0 U (k+1) (bj te tr):=λH Q S q=>by
 refine ak (yg h l H _ S λp H1 S1 pw=>r H1 _ (S.trans S1) λvs H2 S2 lv hv=>?_);refine q _ H2 (S1.trans S2) (by rw[QS,lv]) λv hv'=>?_;rcases QO.mp hv' with e|e
 ·exact{p,e,pw.same S2}
 exact hv v e
end
def LPp (H:Hp) (L:Addr) (k:Nat):Prop:=∃vs:List V,H L=some (.lst vs)/\vs.length=k/\∀v∈vs,∃p,v=.ref p/\PW H 0 30 400 p
theorem LPp.same {k:Nat} (S:ao H H') (h:LPp H L k):LPp H' L k:=by
 obtain⟨vs,h1,h2,h3⟩:=h;exact{vs,S _ _ h1,h2,λv hv=>by obtain⟨p,e,pw⟩:=h3 v hv;exact{p,e,pw.same S} }
theorem LPp.ne {k:Nat} (h:LPp H L (k+1)) (pw:PW H 0 30 n p):p≠L:=λe=>by
 obtain⟨vs,h1,h2,h3⟩:=h;obtain⟨us,g1,_,_,g4⟩:=pw;rw[e,h1]at g1;cases g1
 match vs,h2 with
 | v::vs,_ =>
  obtain⟨q,e1,us,hq,_⟩:=h3 v (by simp);obtain⟨b,s,i,e2,hb,_⟩:=g4 v (by simp);rw[e1]at e2;cases e2;rw[hq]at hb;cases hb
theorem qq {r:Addr} {k:Nat} (hr:H r=none) (lv:vs.length=k) (h:∀v∈vs,∃p,v=.ref p/\PW H 0 30 400 p):LPp (upd H r (.lst vs)) r k :=
 {vs,af,lv,λv hv=>by obtain⟨p,e,pw⟩:=h v hv;exact{p,e,pw.same (ag hr)} }
theorem PW.zero (h:PW H lo 11 n p):PW H 0 30 n p:=by
 obtain⟨vs,h1,h2,h3,h4⟩:=h;exact{vs,h1,QG _,h3,λv hv=>by obtain⟨b,s,i,e,hb,l1,l2⟩:=h4 v hv;exact{b,s,i,e,hb,QG _,⋯} }
def vD:Sp:=λvs H Q _=>∃(p:Addr) (x:Int) (a li lg:Addr) (ins:List Str) (gvs:List V) (gs:F5),vs=[.ref p,.int x,.ref a]/\0<=x/\x<10007/\PW H 1 11 128 p/\NAt H a li lg ins gvs gs/\NetOk ins gs/\∀r H',ao H H'->PW H' 0 30 400 r->Q (.ref r) H'
theorem oq (a b:Str):(a++b).length=a.length+b.length:=by
 show (a.cps++b.cps).size=_;rw[Xu];rfl
section
theorem pN:FnScope ["paper", "x", "net", "at", "here", "number", "way", "spot", "more", "other", "some"] ["paper", "x", "net"] (aB (top 49)):=by fin2
theorem yc {f:Addr} {fd:FuncData} (Fu:Fun K "_law_bent" "_law_bent" (top 49) f fd) (T:Txt K mg TT) (f_law_standing:Fn P w K mg base "_law_standing" ["x", "net"] 1 jL):FnOk P w K mg base CX0 2 f fd ["paper", "x", "net"] vD:=by
 have S:=pN;refine Fu.ok S (by room) (λcdv A outer s H vs Q E hr h=>?_);obtain⟨p,x,a,li,lg,ins,gvs,gs,rfl,x0,x1,pw,NA,ok,k⟩:=h;have hu:=du hr;refine'{?_,?bb,?_}
 case bb =>
  walk_at "b";exact aF 3 S.nd (ap aR (pv 1) (aE aI (by rfl) T.n_len QJ (aa (pv 0) ad ai)));exact(j_ (aD aH (pv 0) (pv 3)) (fR rfl (bC (bO 4 S.nd) (bC (bO 5 S.nd) dX))));exact aF 6 S.nd (ap aR (ap cI (pv 1) ae) ae);exact aF 7 S.nd (ap aR (pv 1) (aE fD (by rfl) T.n_len QJ (aa (pv 4) ad ai)));exact aF 8 S.nd (aS f_law_standing hr (aa (ap cI (pv 1) ae) (aa (pv 2) ad ai)));refine' aF 9 S.nd ?e
  case e =>
   walk_at "q";exact(pv 4);exact(ap aO (pv 5) (aD aH (aY (aa ae (aa (i8 fM ae) (aa (i8 fM ae) ad)) aL)) (ap aR (pv 1) ae)))
  refine' aF 10 S.nd ?e
  case e =>
   walk_at "q";exact(pv 0);exact(ap cu (a8 cq (pv 0) bt (br (pv 3))) (a8 cq (pv 0) (br (ap aO (pv 3) ae)) bt));exact(ap cu (ap cu (a8 cq (pv 0) bt (br (pv 3))) (aY (aa (pv 9) ad ai))) (a8 cq (pv 0) (br (pv 3)) bt));exact(Af (pv 0) (i8 fM ae) (λ_ _ _ q=>{1,rfl,q}))
  exact aF 10 S.nd (ap cu (pv 10) (aY (aa (ap cu (ap cu (a8 cq (pv 0) bt (br (pv 3))) (aY (aa (pv 9) ad ai))) (a8 cq (pv 0) (br (ap aO (pv 3) ae)) bt)) (aa (aE (gZ rfl) (by rfl) T.n_sorted Xq (aa (ap cu (pv 0) (aY (aa (bq (aa (pv 8) (aa (ap aR (pv 1) ae) ad) ai)) ad se_tup))) ad)) ad se_call) se_bin)));exact aF 10 S.nd (ap cu (pv 10) (aY (aa (aE (gZ rfl) (by rfl) T.n_sorted Xq (aa (ap cu (pv 0) (aY (aa (bq (aa (ap bP (pv 4) aU) (aa ae ad aL))) ad se_tup))) ad)) (aa (ap cu (aY (aa (bq (aa aU (aa ae ad aL) aL)) ad se_tup)) (pv 0)) (aa (ap cu (a8 cq (pv 0) bt (br (ap aO (pv 3) ae))) (a8 cq (pv 0) (br (pv 3)) bt)) ad se_bin) se_bin) se_call)));refine' bB (cL QB QC QE a7 (pv 10) ?a)
  case a =>
   walk_at "q";exact(aE (gZ rfl) (by rfl) T.n_sorted Xq (aa (ap cu (pv 0) (aY (aa (bq (aa (ap bP (ap bP (a8 eR (pv 4) bt (br (pv 7))) aU) (a8 eR (pv 4) (br (ap aO (pv 7) ae)) bt)) (aa (ap aR (pv 1) ae) ad))) ad se_tup))) ad))
  exact(aK (aD aH (pv 10) (pv 6)))
 x_go;obtain⟨vs,hp,l1,l2,hv⟩:=id pw;have m0:0<=x % (vs.length:Int):=Int.emod_nonneg _ ⋯;have m1:x % (vs.length:Int)<vs.length:=XU _ ⋯;obtain⟨j,ej⟩:∃j:Nat,x % (vs.length:Int)=(j:Int):={(x % (vs.length:Int)).toNat,⋯};obtain⟨v,ev⟩:∃v,vs[j]?=some v:={_,Qc ⋯};obtain⟨b,y,n,rfl,hb,y1,y2⟩:=hv v (Qg ev);kt_k;refine bp (aV (aj rfl (dN (ak (aj rfl (aC {p,_,rfl,.inl (SqL.of hp),dj ⋯ (az ?_)}))))));rw[ej];kt_k;refine bp (aV (aj rfl (aj rfl (bd (SqL.of hp) (bQ ev) ?_))));refine{b,_,rfl,SqT.of hb,rfl,?_};refine{_,_,rfl,az {_,_,rfl,az {rfl,?_} } };kt_k;refine bp (aV (aV (aj rfl (i_c (dj {by decide,by decide} (i_c (dj (by decide) (az ?_))))))));have w0:0<=x / 128 % 10:=by omega
 have w1:x / 128 % 10<10:=by omega
 generalize hway:x / 128 % 10=way at *;clear hway;kt_k;refine bp (aV (aj rfl (dN (ak (aj rfl (aC {y,rfl,⋯,dj ⋯ (az ?_)}))))));generalize x % (y.length:Int)=spot at *;kt_k;refine bp (bJ (ak (aV (aj rfl (i_c (dj {by decide,by decide} (ak (aj rfl (aC {_,a,li,lg,ins,gvs,gs,rfl,NA,ok,λmore H1 stm S1=>az ?_})))))))));obtain⟨mo1,mo2⟩:=qT ok stm;kt_k
 obtain⟨g,eg⟩:∃g:Int,atI [V.int 1,V.int (-1),V.int (-9)] (x % 3)=some (.int g):=by
  have:x % 3=0\/x % 3=1\/x % 3=2:=by omega
  rcases this with e|e|e <;> rw[e]
  ·exact{1,rfl}
  ·exact{-1,rfl}
  exact{-9,rfl}
 refine bp (i_tup (ak (aj rfl (ak (aV (aj rfl (aV (cA (ak (i_c (ak {1,rfl,ak {9,rfl,aC {by simp[sizeLine],λq hq=>?_} } })))))))))));ctx_has H1 q H2 S2 q2 aJ hq;refine aV (aj rfl (i_c (dj (by decide) (bd (SqL.of q2) eg (cw (aC {by simp[sizeLine],λt ht=>az ?_}))))));ctx_has H2 t H3 S3 q3 aJ ht;have S03:=S1.trans (S2.trans S3);have pw3:=(pw.same S03).zero;have po:PrW H3 0 30 (.ref t):={t,y,_,rfl,q3,QG _,⋯};kt_k;refine bp (cA ((?mA:MkA H3 _ 4 _) H3 _ (ao.refl _) λvs4 H4 S4 l4 h4=>{⋯,λL hL=>az ?_}))
 case mA=>exact de (kH rfl pw3) (de (eS (i_ rfl pw3 dL (io rfl)) (i_ rfl pw3 (og rfl) dL)) (de (eS (eS (i_ rfl pw3 dL (io rfl)) (iO (tj rfl po))) (i_ rfl pw3 (io rfl) dL)) (de (AG rfl pw3) oh)))
 have lw5:=qq hL l4 h4;have S5:ao H3 (upd H4 L (.lst vs4)):=S4.trans (ag hL);generalize upd H4 L (.lst vs4)=H5 at *;have pw5:=pw3.same S5;have po5:PrW H5 0 30 (.ref t):=po.mono λb xs e=>S5 _ _ e;clear h4 hL;kt_k;obtain⟨us5,hL5,_⟩:=id lw5;refine bp (aV (aj rfl (cA ((?mA:MkA H5 _ 2 _) H5 _ (ao.refl _) λvs6 H6 S6 l6 h6=>{⋯,λL6 hL6=>?_}))))
 case mA =>
  refine de (eS (eS (i_ rfl pw5 dL (io rfl)) (iO (tj rfl po5))) (i_ rfl pw5 (og rfl) dL)) (de (oi (eS (kH rfl pw5) (iO λH Q S q=>?_))) oh);refine i_tup (ak (aj rfl (ak (aV (aj rfl (i_c (dj (by decide) (aC {by simp[sizeLine],λt ht=>?_}))))))));exact q _ _ (ag ht) {t,more,_,rfl,af,QG _,⋯}
 obtain⟨us,hLa,lu,hua⟩:=lw5.same (S6.trans (ag hL6));obtain⟨ws,hLb,lw,hwa⟩:=qq hL6 l6 h6;refine gG hLa hLb ⋯ λr hr=>az ?_;have lw7:LPp (upd (upd H6 L6 (.lst vs6)) r (.lst (us++ws))) r 6:=qq hr (by rw[Qk];omega) λv hv=>(Qp.mp hv).elim (hua v) (hwa v);have S7:ao H5 (upd (upd H6 L6 (.lst vs6)) r (.lst (us++ws))):=(S6.trans (ag hL6)).trans (ag hr);generalize upd (upd H6 L6 (.lst vs6)) r (.lst (us++ws))=H7 at *;clear h6 hL6 hLa hLb hua hwa hr lw5 hL5;have pw7:=pw5.same S7;kt_k;refine bp (aV (aj rfl (cA ((?mA:MkA H7 _ 3 _) H7 _ (ao.refl _) λvs8 H8 S8 l8 h8=>{⋯,λL8 hL8=>?_}))))
 case mA =>
  refine de (oi (eS (kH rfl pw7) (iO λH Q S q=>?_))) (de (eS (iO λH Q S q=>?_) (kH rfl pw7)) (de (eS (i_ rfl pw7 dL (og rfl)) (i_ rfl pw7 (io rfl) dL)) oh))
  ·refine i_tup (ak (aV (aj rfl (i_c {y,_,rfl,rfl,by show _+1<=_;omega,?_}))));refine ak (i_c (aC {by simp[sizeLine],λt ht=>?_}));exact q _ _ (ag ht) {t,_,_,rfl,af,QG _,by rw[oq];show _+1<=_;omega}
  refine i_tup (ak (i_c (ak (i_c (aC {by simp[sizeLine],λt ht=>?_})))));exact q _ _ (ag ht) {t,_,_,rfl,af,QG _,QG _}
 obtain⟨us,hLa,lu,hua⟩:=lw7.same (S8.trans (ag hL8));obtain⟨ws,hLb,lw,hwa⟩:=qq hL8 l8 h8;refine gG hLa hLb ⋯ λr2 hr=>az ?_;have lw9:LPp (upd (upd H8 L8 (.lst vs8)) r2 (.lst (us++ws))) r2 9:=qq hr (by rw[Qk];omega) λv hv=>(Qp.mp hv).elim (hua v) (hwa v);have S9:ao H7 (upd (upd H8 L8 (.lst vs8)) r2 (.lst (us++ws))):=(S8.trans (ag hL8)).trans (ag hr);have r20:H r2=none:=ao.free (S03.trans (S5.trans (S7.trans (S8.trans (ag hL8))))) hr;generalize upd (upd H8 L8 (.lst vs8)) r2 (.lst (us++ws))=H9 at *;clear h8 hL8 hLa hLb hua hwa hr lw7;have pw9:=pw7.same S9;obtain⟨us9,hr9,_⟩:=id lw9;have S09:=S03.trans (S5.trans (S7.trans S9));have slS:∀lo hi,(Txt.slice y lo hi).length<=11:=λlo hi=>QX (XO y _ _) ⋯;kt_k;refine s_drop (i_bm (aj rfl {i_tyL hr9,ak ((?mB:MkP H9 _ 129 _) H9 _ (ao.refl _) λp10 H10 S10 pw10=>aC ?_)}))
 case mB =>
  refine oi (eS (kH rfl pw9) (iO λH Q S q=>?_));refine i_tup (ak (aV (aV (i_sl (aj rfl (i_nopart (i_part (aj rfl {_,rfl,y,rfl,⋯,?_}))))))));have l1:=slS none (some spot);have l2:=slS (some (spot+1)) none;refine i_c {_,_,rfl,rfl,by show _+1<=_;omega,?_};have l3:(Txt.slice y none (some spot)++("2" : Str)).length<=12:=by rw[oq];show _+1<=_;omega
  refine i_sl (aj rfl (i_part (aV (aj rfl (i_c (cw {_,rfl,i_nopart {y,rfl,⋯,{_,_,rfl,rfl,⋯,?_} } }))))));refine ak (aV (aj rfl (i_c (dj (by decide) (aC {by simp[sizeLine],λt ht=>?_})))));exact q _ _ (ag ht) {t,_,_,rfl,af,QG _,by rw[oq];omega}
 have lw10:=lw9.same S10;have ne:=lw10.ne pw10;obtain⟨vs10,h10,lv10,hv10⟩:=lw10;refine dr h10 ⋯ ?_;obtain⟨m,em⟩:∃m:Nat,way=(m:Int):={way.toNat,⋯};subst em;obtain⟨u,eu⟩:∃u,(vs10++[V.ref p10])[m]?=some u:={_,Qc (by rw[Qk,lv10];simp;omega)};refine ck (aV (aj rfl (aj rfl (bd (SqL.of af) (bQ eu) ?_))));have S0:ao H (upd H10 r2 (.lst (vs10++[V.ref p10]))):=aN (S09.trans S10) r20;rcases Qp.mp (Qg eu) with hm|hm
 ·obtain⟨p',e,pw'⟩:=hv10 u hm;subst e;exact k _ _ S0 (pw'.upd h10 ((lw9.same S10).ne pw'))
 rw[Qr]at hm;subst hm;obtain⟨us,g1,g2,g3,g4⟩:=pw10.upd (o:=.lst (vs10++[V.ref p10])) h10 ne;exact k _ _ S0 {us,g1,g2,⋯,g4}
end
theorem xE {R:Bool->Hp->Prop} (hl:H l=some (.lst [])) (q:∀H',ao H H'->R false H'):t_ dW U H λy H2=>pT K true (.ref l) y H2 λx H'=>∃k,x=.bl k/\R k H':=by
 refine cA (aC {by simp[sizeLine],λp hp=>?_});exact DY (SqL.of (ag hp _ _ hl)) (SqL.of af) rfl (λj x y _ e=>by simp at e) {_,rfl,q _ (ag hp)}
theorem u4 {g:TG} {tt:St->Hp->(Bool->Hp->Prop)->Prop} {QD:Hp->Prop} (q1:H1 p=some (.lst (ss.map V.str))) (hL:H1 L=none)
  (hs:∀x H' (T:St->Hp->Prop) (R:Hp->Prop),x∈ss->ao H1 H'->(∀H3,ao H' H3->R H3)->g (.str x) σ0 H' λσ2 H2=>wk σ0 σ2/\tt σ2 H2 λb H3=>if b=true then T σ2 H3 else R H3) (hd:∀H',ao H1 H'->H' L=some (.lst [])->QD H') :
  ∃W:Nat->Nat->Hp->List V->Prop,(∃m,W 0 m (upd H1 L (.lst [])) [])/\∀i m H ys,W i m H ys->H L=some (.lst ys)/\(((Itl K p).stop i H/\QD H)\/((Itl K p).go i H/\∀x H',(Itl K p).yld i H x H'->g x σ0 H' λσ2 H2=>wk σ0 σ2/\tt σ2 H2 λb H3 =>
   if b=true then te σ2 H3 λv H4=>H4 L=some (.lst ys)/\ys.length<sizeLine/\∃m',m'<m/\W (i+1) m' (upd H4 L (.lst (ys++[v]))) (ys++[v]) else ∃m',m'<m/\W (i+1) m' H3 ys)):=by
 refine gX (xs:=ss.map V.str) (λm H' ys=>ao H1 H'/\H' L=some (.lst [])/\ys=[]) {ag hL,af,rfl} (λm H' ys p=>{by rw[p.2.2];exact p.2.1,SqL.of (p.1 _ _ q1)}) (λm v H' ys e p=>?_) λH' ys p=>hd H' p.1 p.2.1;obtain⟨Sm,hl,rfl⟩:=p;rw[Qi]at e
 cases ex:ss[m]? with
 | none=>rw[ex]at e;cases e
 | some x =>
 rw[ex]at e;cases e;have hm:m<ss.length:=(Qe.mp ex).1;refine hs x H' _ _ (Qg ex) Sm λH3 S3=>?_;rw[Qa];exact{ss.length-(m+1),⋯,rfl,⋯,Sm.trans S3,S3 _ _ hl,rfl}
theorem rh {X:Cx} {K:PySem.W.Frag} {a:Expr} {ta:TA} {p1 pos1:Pos} (h:X.K=K) (hc:X.calm=true) (hg:Gl X "dict") (hm:X.mg "dict" = none) (ha:PA X [a] ta) (hs:starEach [a] X.env=[(false,eval a X.env)]:=by rfl):PE X (.Call (.Name "dict" p1) [a] [] pos1) (np K ta):=by subst h;exact dA hc hg hm ha hs
theorem xP {E:XK} (h:∃a li lg ins gvs gs z,vs=[.ref a,.str z]/\NAt H a li lg ins gvs gs/\NetOk ins gs/\StOk (aq ins gs).length z/\fK TL eT H/\∀v H',Tk TL H H'->(∀r,fq ins gs z r->v=.str r)->Q v H'):vv TL vs H Q E:=by
 obtain⟨a,li,lg,ins,gvs,gs,z,e,NA,ok,st,tb,k⟩:=h;exact{a,li,lg,ins,gvs,gs,z,e,NA,ok,st,tb,λr xs H' t _ one=>k _ _ t λr' o=>by rw[o.one one],λxs H' t _ no=>k _ _ t λr' o=>absurd o (no r')}
section
theorem zW:FnScope ["script", "d", "net", "standing", "rest", "ways", "some", "order", "along", "papers", "k", "bent", "paper", "one"] ["script"] (aB (top 50)):=by fin2
theorem we {TL:Addr} {f:Addr} {fd:FuncData} (Fu:Fun K "law" "law" (top 50) f fd) (T:Txt K mg TT) (f_law_draws:Fn P w K mg base "_law_draws" ["script", "many"] 1 (sN K)) (f_law_net:Fn P w K mg base "_law_net" ["d", "spot"] 12 vA) (f_law_standing:Fn P w K mg base "_law_standing" ["x", "net"] 1 jL)
  (f_law_order:Fn P w K mg base "_law_order" ["net", "standing", "d", "spot", "most"] 12 sK) (f_one_rest:Fn P w K mg base "one_rest" ["net", "standing"] 16 (vv TL)) (f_law_ways:Fn P w K mg base "_law_ways" ["net", "standing"] 12 qU) (f_law_papers:Fn P w K mg base "_law_papers" ["net", "standing", "d", "spot"] 17 (pA TL))
  (f_law_bent:Fn P w K mg base "_law_bent" ["paper", "x", "net"] 2 vD) (f_rest_shows:Fn P w K mg base "rest_shows" ["net", "standing", "rest", "paper"] 13 pk):FnOk P w K mg base CX0 18 f fd ["script"] (sL K TL):=by
 have S:=zW;refine Fu.ok S (by room) (λcdv A outer s H vs Q E hr h=>?_);obtain⟨sc,cells,rfl,hS,hlen,tb,k⟩:=h;have hu:=du hr;refine'{?_,?bb,?_}
 case bb =>
  walk_at "b";exact aF 1 S.nd (aS f_law_draws hr (aa (pv 0) (aa ae ad aL) ai));exact aF 2 S.nd (aS f_law_net hr (aa (pv 1) (aa ae ad aL) ai));exact aF 3 S.nd (aS f_law_standing hr (aa (aD aH (pv 1) ae) (aa (pv 2) ad ai)));exact aF 4 S.nd (aS f_one_rest hr (aa (pv 2) (aa (pv 3) ad ai) ai));exact aF 5 S.nd (aS f_law_ways hr (aa (pv 2) (aa (pv 3) ad ai) ai));exact aF 6 S.nd (ap cu (a8 cq (mE (tgs:=["one"]) (cap:=[("ways", 5)]) rfl ⟨rfl,rfl,rfl,rfl,rfl,rfl⟩ (bx (aE (gY rfl) (by rfl) T.n_sorted Xq (aa (pv 5) ad ai))) (λ_ _ _ _=>(dH (i:=0) (show List.Nodup [("one" : Str),("ways" : Str)] by decide +kernel) rfl (by z_go))) (λ_ _ _ _=>(ki (aM (xO (K:=K) rfl hr.units) (bG hu (pv 1) (pv 0)) (aY ad) (aP _)))) (λ_ _ _ _=>(pv 0))) bt (br ae)) (aY (aa (aS f_law_standing hr (aa (aD aH (pv 1) ae) (aa (pv 2) ad ai) se_sub)) ad se_call)));exact(j_ (aS f_law_order hr (aa (pv 2) (aa (pv 3) (aa (pv 1) (aa ae (aa ae ad aL) aL) ai) ai) ai)) (fR rfl (bC (bO 7 S.nd) (bC (bO 8 S.nd) dX))));exact aF 9 S.nd (aS f_law_papers hr (aa (pv 2) (aa (pv 3) (aa (pv 1) (aa ae ad aL) ai) ai) ai));walk_at "f";exact(ce (by rfl) T.n_range (aa (aE aI (by rfl) T.n_len QJ (aa (pv 9) ad ai)) ad se_call));exact(bO 10 S.nd);walk_at "p";exact aF 11 S.nd (aY (aa (aS f_law_bent hr (aa (aD aH (pv 9) (pv 10)) (aa (aD aH (pv 1) (ap aO ae (pv 10))) (aa (pv 2) ad ai)))) (aa (aS f_law_bent hr (aa (aD aH (pv 9) (pv 10)) (aa (aD aH (pv 1) (ap aO ae (pv 10))) (aa (pv 2) ad ai)))) ad se_call) se_call));walk_at "f";exact(bx (ap cu (aY (aa (aD aH (pv 9) (pv 10)) ad)) (pv 11)));exact(bO 12 S.nd);walk_at "p";walk_at "f";exact(bx (pv 6));exact(bO 13 S.nd);walk_at "p";exact(eA (aS f_rest_shows hr (aa (pv 2) (aa (pv 3) (aa (pv 13) (aa (pv 12) ad ai) ai) ai) ai)));exact(PW.pt (ij (aM ku (pv 13) (pv 4) (aP _)) (ij (aM ku (aD aH (pv 8) (i8 fM ae)) (pv 4) (aP _)) (fP (aM vY (aE aI (by rfl) T.n_len QJ (aa (pv 7) ad ai)) (bG hu (dA rfl (by rfl) T.n_dict (aa (pv 12) ad ai)) (pv 3)) (aP _))))));exact(aK eB);exact(aM (n8 hr.units) (mE (tgs:=["here"]) (cap:=[("paper", 12)]) rfl ⟨rfl,rfl,rfl,rfl,rfl,rfl⟩ (bx (pv 8)) (λ_ _ _ _=>(dH (i:=0) (show List.Nodup [("here" : Str),("paper" : Str)] by decide +kernel) rfl (by z_go))) (λ_ _ _ _=>(ki (iL (d8 hu (pv 0) (rh (K:=K) rfl rfl (by rfl) T.n_dict (aa (pv 1) ad ai)))))) (λ_ _ _ _=>(pv 0))) (aY ad) (aP _));exact(aK eB);exact(aK eB)
 x_go;lk;refine{sc,cells,rfl,hS,hlen,λd ds H1 S1 nd hd dok=>?_};lk;refine{d,ds,0,rfl,hd,dok,⋯,⋯,λa li lg ins gvs gs H2 S2 NA ok=>?_};have hd2:=S2 _ _ hd;obtain⟨y1,y10,_,e1⟩:=dh dok (i:=120) ⋯ ⋯;lk;refine bd (SqL.of hd2) e1 ?_;lk;refine{y1,a,li,lg,ins,gvs,gs,rfl,NA,ok,λz H3 st S3=>?_};have hd3:=S3 _ _ hd2;have NA3:=NA.same S3;have tb3:=cQ tb (S1.trans (S2.trans S3));kt_k;kt_k;refine bp (bJ (ak (aj rfl (ak (aj rfl (aC ?_))))));refine xP {a,li,lg,ins,gvs,gs,z,rfl,NA3,ok,st,tb3,λrv H4 t4 rest=>az ?_};have tb4:=t4.tab;have NA4:=NA3.mono (t4.lst tb3) (t4.tup tb3);have hd4:=t4.lst tb3 _ _ hd3;kt_k;refine bp (bJ (ak (aj rfl (ak (aj rfl (aC ?_))))));refine{a,li,lg,ins,gvs,gs,z,rfl,NA4,ok,st,λF ys xs ls H5 S5 hF0 met pm wd=>az ?_};have few:=met.few7 ok;obtain⟨hF,lls,hls⟩:=id wd;have lys:=pm.length_eq;have ndy:=pm.nodup_iff.mpr met.nd;have NA5:=NA4.same S5;have hd5:=S5 _ _ hd4;have tb5:=cQ tb4 S5;obtain⟨y2,y20,_,e2⟩:=dh dok (i:=121) ⋯ ⋯;kt_k;refine bp (aV (i_sl (bR (s_list (dN (ak (aj rfl (aC {F,ys,rfl,rW (.inl hF) lls,⋯,λp ss hp pm2 so=>?_}))))))));ctx_has H5 p H6 S6 q6 aJ hp;have lss:=pm2.length_eq;refine{p,rfl,{_,SqL.of q6},λL hL=>?_};refine gX (xs:=ss.map V.str) (λm H' us=>ao H6 H'/\H' L=some (.lst us)/\us.length<=m/\∀u∈us,∃x:Str,u=.str x) {ag hL,af,Qh _,λu h=>nomatch h} (λm H' ys p=>{p.2.1,SqL.of (p.1 _ _ q6)}) (λm v H' us e p=>?_) (λH7 us p7=>?_)
 ·obtain⟨Sm,hd',lu,all⟩:=p;rw[Qi]at e
  cases ex:ss[m]? with
  | none=>rw[ex]at e;cases e
  | some x =>
  rw[ex]at e;cases e;have hm:m<ss.length:=(Qe.mp ex).1;obtain⟨i,hi,exi⟩:=Qo.mp (pm2.mem_iff.mp (Qg ex));have f1:ys[i]?=some x:=by rw[Qc hi,exi]
  obtain⟨b,f2⟩:∃b,ls[i]?=some b:={_,Qc ⋯};have S0m:=S6.trans Sm;refine az {by repeat' (first|exact trivial|refine{rfl,?_}),?_};refine i_test (aV (i_dget (aj rfl (aj rfl {F,_,rfl,dZ (.inl (S0m _ _ hF)) ndy f1 f2,r_eqNil (S0m _ _ (hls i x b f1 f2)) λH8 S8=>{_,rfl,?_} }))));generalize (((nxS ins gs x).map V.str).length==0)=c
  cases c with
  | true =>
   refine ifT rfl (aj rfl (b8.mk (S8 _ _ hd') (by rw[Qa];exact hm) ⋯ {aN (Sm.trans S8) hL,af,by rw[Qk];exact Nat.succ_le_succ lu,λu hu'=>?_}));rcases Qp.mp hu' with h|h
   ·exact all u h
   rw[Qr]at h;exact⟨x,h⟩
  | false =>
  refine ifF rfl ?_;rw[Qa];exact{ss.length-(m+1),⋯,rfl,⋯,Sm.trans S8,S8 _ _ hd',⋯,all}
 obtain⟨S7,hd7,lu,all⟩:=p7;rw[Qa]at lu;refine i_nopart (i_part (i_c {_,rfl,jc (SqL.of hd7) λL8 hL8=>?_}));generalize hcut:fJ us none (some 2)=us2;have cm:(∀x∈us2,x∈us)/\us2.length<=us.length:=by rw[<-hcut];exact jD
 generalize hE:upd H7 L8 _=H8;obtain⟨S8,q8⟩:=aJ hL8 hE;clear hE hcut;have S58:=S6.trans (S7.trans S8);have hd8:=S58 _ _ hd5;have NA8:=NA5.same S58;refine cA (ak (bJ (ak (aV (aj rfl (i_c (bd (SqL.of hd8) e2 (ak (aj rfl (aC {y2,a,li,lg,ins,gvs,gs,rfl,NA8,ok,λz2 H9 st2 S9=>aC {by simp[sizeLine],λL9 hL9=>?_} }))))))))));ctx_has H9 L9 H10 S10 q10 aJ hL9;have S810:=S9.trans S10;refine gG (S810 _ _ q8) q10 (by simp;omega) λSm hSm=>az ?_
 obtain⟨ws,ew⟩:∃ws:List Str,us2++[V.str z2]=ws.map V.str:=by
  have:∀u∈us2,∃x:Str,u=.str x:=λu hu'=>all u (cm.1 u hu');clear cm q8
  induction us2 with
  | nil=>exact{[z2],rfl}
  | cons u us2 ih =>
  obtain⟨ws,e⟩:=ih λu hu'=>this u (by simp[hu']);obtain⟨x,ex⟩:=this u (by simp);exact{x::ws,by rw[List.cons_append,e,ex];rfl}
 rw[ew];generalize hE:upd H10 Sm _=H11;obtain⟨S11,q11⟩:=aJ hSm hE;clear hE all cm q8 q10;have S511:=(S58.trans S810).trans S11;have hd11:=S511 _ _ hd5;have NA11:=NA5.same S511;have tb11:=cQ tb5 S511;kt_k;refine bp (bJ (ak (aj rfl (ak (aj rfl (ak (aj rfl (ak (i_c (ak (i_c (aC ?_))))))))))));refine{a,li,lg,ins,gvs,gs,z,d,ds,_,130,rfl,NA11,ok,st,hd11,dok,⋯,λt oa la os as H12 S12 ht ho hl l130 W rs=>?_};have len:=W.len;refine{t,_,rfl,SqT.of ht,rfl,?_};refine{_,_,rfl,az {_,_,rfl,az {rfl,?_} } };obtain⟨y,ey⟩:∃y,as[os.length]?=some y:={_,Qc ⋯}
 have ru:Run ins gs z os y:=by
  have:=W.run os.length 0 z y ⋯ W.hd (by rw[Nat.zero_add];exact ey);rwa [List.drop_zero,Qw (Qh _)]at this
 have along:∀x∈as,∃ps,Run ins gs z ps x:=λx hx=>by
  obtain⟨j,hj,ej⟩:=Qo.mp hx;exact{_,W.run j 0 z x ⋯ W.hd (by rw[Nat.zero_add,Qc hj,ej])}
 have last:∀r,fq ins gs z r->y=r:=λr ⟨xs',m',uni,nl,long⟩=>by
  have l128:=long.few m' ok ru;rcases rs with rs|⟨x,hx,e⟩
  ·omega
  rw[ey]at hx;cases hx;exact(uni y).mp {m'.runs ru m'.start,e}
 have hd12:=S12 _ _ hd11;have NA12:=NA11.same S12;have tb12:=cQ tb11 S12;have q12:=S12 _ _ q11;kt_k;refine bp (bJ (ak (aj rfl (ak (aj rfl (ak (aj rfl (ak (i_c (aC ?_))))))))));refine{a,li,lg,ins,gvs,gs,z,d,ds,90,rfl,NA12,ok,st,hd12,dok,⋯,⋯,tb12,λG H13 t13 fn=>az ?_};have NA13:=NA12.mono (t13.lst tb12) (t13.tup tb12);have hd13:=t13.lst tb12 _ _ hd12;have q13:=t13.lst tb12 _ _ q12;have ho13:=t13.lst tb12 _ _ ho;have hl13:=t13.lst tb12 _ _ hl;obtain⟨ps,hG,lps,pws⟩:=fn;kt_k;refine s_for (s_rng1 (ak (dN (ak (aj rfl (aC {G,_,rfl,.inl (SqL.of hG),aC {_,rfl,by rw[Qa];omega,by rw[Qa];omega,?_} }))))));rw[Qa,Xh];let I45:IvF:=λi U H'=>(∃x10 x11 x12 x13,U=[some (.ref sc),some (.ref d),some (.ref a),some (.str z),some rv,some (.ref F),some (.ref Sm),some (.ref oa),some (.ref la),some (.ref G),x10,x11,x12,x13])/\ao H13 H';refine cV (n:=ps.length) I45 {⟨_,_,_,_,rfl⟩,ao.refl _} (λi U H' hi pv=>?_) (λU H' pv=>?_);rotate_left
 ·obtain⟨⟨x10,x11,x12,x13,rfl⟩,SH⟩:=pv
  try dsimp only
  lk;exact k _
 obtain⟨⟨x10,x11,x12,x13,rfl⟩,SH⟩:=pv;obtain⟨p0,ep⟩:∃p0,ps[i]?=some p0:={_,Qc hi};have pw0:=(pws p0 (Qg ep)).2.same SH;have NAH:=NA13.same SH;have hdH:=SH _ _ hd13;have hGH:=SH _ _ hG;obtain⟨c1,c10,c11,ec1⟩:=dh dok (i:=122+(0+(i:Int))) ⋯ ⋯;obtain⟨c2,c20,c21,ec2⟩:=dh dok (i:=128+(0+(i:Int))) ⋯ ⋯;have eG:atI (ps.map V.ref) (0+(i:Int))=some (.ref p0):=by rw[Int.zero_add];exact bQ (by rw[Qi,ep];rfl)
 refine az ?_;kt_k;refine bp (cA (ak (bJ (ak (aV (aj rfl (aj rfl (bd (SqL.of hGH) eG (ak (aV (aj rfl (aV (i_c (aj rfl (cw (bd (SqL.of hdH) ec1 (ak (aj rfl (aC ?_)))))))))))))))))));refine{p0,c1,a,li,lg,ins,gvs,gs,rfl,c10,c11,pw0,NAH,ok,λb1 H14 S14 pw1=>?_};refine ak (bJ (ak (aV (aj rfl (aj rfl (bd (SqL.of (S14 _ _ hGH)) eG (ak (aV (aj rfl (aV (i_c (aj rfl (cw (bd (SqL.of (S14 _ _ hdH)) ec2 (ak (aj rfl (aC ?_)))))))))))))))));refine{p0,c2,a,li,lg,ins,gvs,gs,rfl,c20,c21,pw0.same S14,NAH.same S14,ok,λb2 H15 S15 pw2=>?_};refine aC {by simp[sizeLine],λB hB=>az ?_};ctx_has H15 B H16 S16 q16 aJ hB;have SH16:=SH.trans (S14.trans (S15.trans S16));refine s_for (s_list (aV (cA (ak (aV (aj rfl (aj rfl (bd (SqL.of (SH16 _ _ hG)) eG (aC {by simp[sizeLine],λO hO=>?_})))))))));ctx_has H16 O H17 S17 q17 aJ hO;refine aj rfl (gG q17 (S17 _ _ q16) (by simp[sizeLine]) λC hC=>?_);ctx_has H17 C H18 S18 q18 aJ hC;have SH18:=SH16.trans (S17.trans S18)
 have pap:∀v∈[V.ref p0,V.ref b1,V.ref b2],∃b,v=.ref b/\PW H18 0 30 400 b:=λv hv=>by
  have up:∀{G G':Hp} {q:Addr} {n m:Nat},ao G G'->n<=m->PW G 0 30 n q->PW G' 0 30 m q:=λS l h=>by
   obtain⟨vs,h1,h2,h3,h4⟩:=h.same S;exact{vs,h1,h2,⋯,h4}
  simp only[QO,List.not_mem_nil,or_false]at hv;rcases hv with e|e|e
  ·exact{p0,e,up (S14.trans (S15.trans (S16.trans (S17.trans S18)))) ⋯ pw0.zero}
  ·exact{b1,e,up (S15.trans (S16.trans (S17.trans S18))) (Qh _) pw1}
  exact{b2,e,up (S16.trans (S17.trans S18)) (Qh _) pw2}
 refine{C,rfl,{_,SqL.of q18},?_};let I46:IvF:=λj U G'=>(∃x12 x13,U=[some (.ref sc),some (.ref d),some (.ref a),some (.str z),some rv,some (.ref F),some (.ref Sm),some (.ref oa),some (.ref la),some (.ref G),some (.int (0+(i:Int))),some (.ref B),x12,x13])/\ao H18 G';refine dO (xs:=[V.ref p0,V.ref b1,V.ref b2]) I46 {⟨_,_,rfl⟩,ao.refl _} (λj U G' _ pv=>SqL.of (pv.2 _ _ q18)) (λj v U G' hv pv=>?_) (λU G' pv=>?_);rotate_left
 ·obtain⟨⟨x12,x13,rfl⟩,SG⟩:=pv;exact{⟨_,_,_,_,rfl⟩,SH18.trans SG}
 obtain⟨⟨x12,x13,rfl⟩,SG⟩:=pv;obtain⟨b,rfl,pwb⟩:=pap v (Qg hv);obtain⟨bs,qs,pp,_,lq,qlen,_⟩:=(pwb.same SG).pap;have SHG:=SH18.trans SG;refine az ?_;refine s_for (s_list (aj rfl {Sm,rfl,{_,SqL.of (SHG _ _ q13)},?_}));let I47:IvF:=λj U G2=>(∃x13,U=[some (.ref sc),some (.ref d),some (.ref a),some (.str z),some rv,some (.ref F),some (.ref Sm),some (.ref oa),some (.ref la),some (.ref G),some (.int (0+(i:Int))),some (.ref B),some (.ref b),x13])/\ao G' G2;refine dO (xs:=ws.map V.str) I47 {⟨_,rfl⟩,ao.refl _} (λj U G2 _ pv=>SqL.of (pv.2 _ _ (SHG _ _ q13))) (λj2 v U G2 hv2 pv=>?_) (λU G2 pv=>?_);rotate_left
 ·obtain⟨⟨x13,rfl⟩,SG2⟩:=pv;exact{⟨_,_,rfl⟩,SG.trans SG2}
 obtain⟨⟨x13,rfl⟩,SG2⟩:=pv;obtain⟨r,hr',rfl⟩:=Qj.mp (Qg hv2);have S2':=SHG.trans SG2;refine az ?_;kt_k;refine i_test (bJ (ak (aj rfl (ak (aj rfl (ak (aj rfl (ak (aj rfl (aC {a,li,lg,ins,gvs,gs,z,r,b,bs,qs,rfl,NA13.same S2',ok,st,pp.same SG2,⋯,λq hq=>by have:=qlen q hq;omega,λG3 S3'=>{_,rfl,?_} }))))))))))
 cases csh:shB ins gs z r qs with
 | false =>
  refine di ?_;kt_k;exact{⟨_,rfl⟩,SG2.trans S3'}
 | true =>
 have sh:=xC csh;have one:=sh.one ok st;have erv:=rest r one;subst erv;have ey':=last r one;subst ey';refine b9 ?_;have S3G:=S2'.trans S3';have pp3:=pp.same (SG2.trans S3');obtain⟨hp3,lb3,hb3⟩:=id pp3;obtain⟨nz,hnz⟩:=sh.num;obtain⟨m,hm,lm⟩:=sh.run ru nz hnz;have mp:=sh.pos _ hm;have mp:0<=m:=mp;have get:∀{G4:Hp} {N:Addr} {x:Str} {n:Int},G4 N=some (.dK (bu qs))->(x,n)∈qs->cK G4 N (.str x) (some (.int n)):=λ{G4 N x n} e h=>.inl {_,Sum.inr x,.inl e,rfl,(ir sh.nd h).symm};kt_k;kt_k;kt_k;refine i_test (aV (aj rfl (aj rfl (i_ne rfl {_,rfl,ifF (by simp) ?_}))));kt_k;refine i_test (aV (aV (aj rfl {1,rfl,bd (SqL.of (S3G _ _ hl13)) (xj ey len) (aj rfl (i_ne rfl {_,rfl,ifF (by simp) ?_}))})));refine i_test (aV (dN (ak (aj rfl (aC {oa,_,rfl,.inl (SqL.of (S3G _ _ ho13)),i_dget (gS (ak (aj rfl (aC {b,bs.map V.ref,_,rfl,SqL.of hp3,by rw[Qa];omega,pp3.prs,λN hN=>aj rfl ?_}))))})))));rw[kP sh.nd];ctx_has G3 N G4 S4' q4 aJ hN;refine{N,_,rfl,get q4 hnz,cw {_,rfl,ifF (QY (by rw[Qa];omega)) ?_} };kt_k;have S4G:=S3G.trans S4';have pp4:=pp3.same S4';kt_k;refine i_test (aV (bR (s_list (aj rfl {la,rfl,{_,SqL.of (S4G _ _ hl13)},λL hL=>?_}))));refine u4 (S4G _ _ hl13) hL (λx G5 T R hx SS hR=>?_) (λG5 S5' hl5=>?_)
 ·refine az {by repeat' (first|exact trivial|refine{rfl,?_}),?_};obtain⟨hp5,lb5,_⟩:=id (pp4.same SS);obtain⟨ps',ru'⟩:=along x hx;obtain⟨m',hm',_⟩:=sh.run ru' nz hnz;refine i_test (fg (aj rfl (gS (ak (aj rfl (aC {b,bs.map V.ref,_,rfl,SqL.of hp5,by rw[Qa];omega,(pp4.same SS).prs,λN5 hN5=>?_}))))));rw[kP sh.nd];ctx_has G5 N5 G6 S6' q6' aJ hN5;exact{N5,_,rfl,get q6' hm',_,rfl,ifF rfl (hR _ S6')}
 refine xE hl5 λG6 S6'=>di ?_;kt_k;exact{⟨_,rfl⟩,(SG2.trans S3').trans (S4'.trans (S5'.trans S6'))}
end
end K2
namespace K2
open PySem L2 PySem.Spec PyProof.Rows
variable {A:Type}
theorem zK {us:List A} (h:us.length=1):∃a0,us=[a0]:=by
 match us,h with
 | [a0],_=>exact⟨_,rfl⟩
theorem zJ {us:List A} (h:us.length=2):∃a0 a1,us=[a0,a1]:=by
 match us,h with
 | [a0,a1],_=>exact⟨_,_,rfl⟩
theorem DV {us:List A} (h:us.length=3):∃a0 a1 a2,us=[a0,a1,a2]:=by
 match us,h with
 | [a0,a1,a2],_=>exact⟨_,_,_,rfl⟩
theorem DU {us:List A} (h:us.length=4):∃a0 a1 a2 a3,us=[a0,a1,a2,a3]:=by
 match us,h with
 | [a0,a1,a2,a3],_=>exact⟨_,_,_,_,rfl⟩
theorem DT {us:List A} (h:us.length=5):∃a0 a1 a2 a3 a4,us=[a0,a1,a2,a3,a4]:=by
 match us,h with
 | [a0,a1,a2,a3,a4],_=>exact⟨_,_,_,_,_,rfl⟩
structure FX (K:PySem.W.Frag) (n:Str) (i:Nat) (f:Addr) (cd:Value):Prop where
 a:PySem.W.nsIn K mainGlobals n=some (some (.ref f))
 l:∃oc od kV dc pm an ct sl,K.lookup f=some {oc,od,.func (PySem.W.fnOf n n (dI (top i)) (cJ (top i)) (aB (top i)) .none kV dc pm an cd ct),sl}
 c:PySem.W.codeIn K cd n=true
 k:PySem.W.keepIn K (.ref f)=true
variable {mg:F3} {f fa TL0:Addr} {K:PySem.W.Frag}
theorem FX.fn {n:Str} {i:Nat} {cd:Value} {h:Heap} (X:K.In h) (G:h.Ns mainGlobals mg) (x:FX K n i f cd):∃fd,Fun K n n (top i) f fd/\mg n=some (.ref f):=by
 obtain⟨a,⟨_,_,_,_,_,_,_,_,l⟩,c,k⟩:=x;exact{_,rV (st:=top i) l c k,PySem.W.mg_of X G a}
abbrev ZN (K:PySem.W.Frag) (n:Str):Prop:=PySem.W.nsIn K mainGlobals n=some none
theorem bn1 {p:List Value->Prop} (h:∀a0,p [a0]) (us:List Value) (hl:us.length=1):p us:=by obtain⟨a0,e⟩:=zK hl;subst e;exact h a0
theorem bn2 {p:List Value->Prop} (h:∀a0 a1,p [a0,a1]) (us:List Value) (hl:us.length=2):p us:=by obtain⟨a0,a1,e⟩:=zJ hl;subst e;exact h a0 a1
theorem bn3 {p:List Value->Prop} (h:∀a0 a1 a2,p [a0,a1,a2]) (us:List Value) (hl:us.length=3):p us:=by obtain⟨a0,a1,a2,e⟩:=DV hl;subst e;exact h a0 a1 a2
theorem bn4 {p:List Value->Prop} (h:∀a0 a1 a2 a3,p [a0,a1,a2,a3]) (us:List Value) (hl:us.length=4):p us:=by obtain⟨a0,a1,a2,a3,e⟩:=DU hl;subst e;exact h a0 a1 a2 a3
theorem bn5 {p:List Value->Prop} (h:∀a0 a1 a2 a3 a4,p [a0,a1,a2,a3,a4]) (us:List Value) (hl:us.length=5):p us:=by obtain⟨a0,a1,a2,a3,a4,e⟩:=DT hl;subst e;exact h a0 a1 a2 a3 a4
theorem FX.go (P:Program) (w:World) (base:Heap) {n:Str} {i k:Nat} {cd:Value} {h:Heap} {ps:List Str} {sp:Sp} (X:K.In h) (G:h.Ns mainGlobals mg) (x:FX K n i f cd) (o:∀fd,Fun K n n (top i) f fd->mg n=some (.ref f)->gJ K fd ps []->FnOk P w K mg base CX0 k f fd ps sp)
  (hb:∀(kV doc pm:Value) (an:Option Addr) (cdv ct:Value) (us:List Value),us.length=ps.length->bindArgs (PySem.W.fnOf n n (dI (top i)) (cJ (top i)) (aB (top i)) .none kV doc pm an cdv ct) {us,[]}=pure (ps.zip us):=by intro _ _ _ _ _ _;first|exact bn1 λ_=>rfl|exact bn2 λ_ _=>rfl|exact bn3 λ_ _ _=>rfl|exact bn4 λ_ _ _ _=>rfl|exact bn5 λ_ _ _ _ _=>rfl):Fn P w K mg base n ps k sp:=by
 obtain⟨fd,F,m⟩:=x.fn X G;have b:=F.binds hb;exact{f,fd,o fd F m b,m,x.k,b}
theorem A2 {l:PySem.W.OpenLaw} {w:World} {h:Heap} (X:K.In h) (G:h.Ns mainGlobals mg) (hfa:mg "law" = some (.ref fa))
  (aT:PySem.W.nsIn K mainGlobals "TURNED" = some (some (.ref 40))) (tab:sD K 40 [("0", .flat (.str "1")),("1", .flat (.str "0"))])
  (x0:FX K "is_pair" 5 47 (.ref 46)) (x1:FX K "is_whole" 6 54 (.ref 53)) (x2:FX K "is_row" 7 59 (.ref 58)) (x3:FX K "gates_of" 8 64 (.ref 63)) (x4:FX K "wires_of" 9 71 (.ref 70)) (x5:FX K "is_standing" 10 78 (.ref 77)) (x6:FX K "check_standing" 11 85 (.ref 84)) (x7:FX K "rule_holds" 12 92 (.ref 91)) (x8:FX K "rule_worth" 13 99 (.ref 98)) (x9:FX K "signs_in" 14 106 (.ref 105)) (x10:FX K "turned_at" 15 113 (.ref 112)) (x11:FX K "steps_from" 16 120 (.ref 119)) (x12:FX K "found_from" 18 127 (.ref 126)) (x13:FX K "steps_found" 19 134 (.ref 133))(h13:PySem.W.codeHdIn K 133 129=true) (x14:FX K "rests_in" 20 139 (.ref 138)) (x15:FX K "is_paper" 22 144 (.ref 143)) (x16:FX K "is_closed" 23 149 (.ref 148)) (x17:FX K "standings_ahead" 25 154 (.ref 153)) (x18:FX K "most_switchings" 26 159 (.ref 158)) (x19:FX K "one_rest" 27 166 (.ref 165)) (x20:FX K "rest_paper" 28 173 (.ref 172)) (x21:FX K "is_numbered" 29 180 (.ref 179)) (x22:FX K "is_rest_paper" 30 185 (.ref 184)) (x23:FX K "is_falling" 31 190 (.ref 189)) (x24:FX K "rest_shows" 32 195 (.ref 194)) (x25:FX K "_law_draws" 34 202 (.ref 201)) (x26:FX K "_law_names" 35 207 (.ref 206)) (x27:FX K "_law_rule" 36 214 (.ref 213)) (x28:FX K "_law_held" 37 221 (.ref 220)) (x29:FX K "_law_known" 38 226 (.ref 225)) (x30:FX K "_law_deeper" 39 233 (.ref 232)) (x31:FX K "_law_net" 40 240 (.ref 239)) (x32:FX K "_law_standing" 41 245 (.ref 244)) (x33:FX K "_law_holds" 42 252 (.ref 251)) (x34:FX K "_law_asked" 43 257 (.ref 256)) (x35:FX K "_law_order" 44 264 (.ref 263)) (x36:FX K "_law_ways" 45 269 (.ref 268)) (x37:FX K "_law_levels" 46 276 (.ref 275)) (x38:FX K "_law_papers" 48 286 (.ref 285)) (x39:FX K "_law_bent" 49 293 (.ref 292)) (x40:FX K "law" 50 298 (.ref 297))
  (z0:ZN K "len") (z1:ZN K "range") (z2:ZN K "max") (z3:ZN K "min") (z4:ZN K "int") (z5:ZN K "list") (z6:ZN K "str") (z7:ZN K "isinstance") (z8:ZN K "all") (z9:ZN K "set") (z10:ZN K "dict") (z11:ZN K "enumerate") (z12:ZN K "sorted") (z13:ZN K "tuple") (z14:ZN K "bool") (z15:ZN K "zip") (z16:ZN K "reversed") (z17:ZN K "abs")
  : ∃fd:FuncData,(∀(s:Shared) (v:Value),BindsTo s fd {[v],[]} [("script", v)])/\∀base:Heap,K.In base->base.Ns mainGlobals mg->L2.gK base mg->FnOk l.prog w K mg base CX0 18 fa fd ["script"] (sL K 129):=by
 have e:=hfa.symm.trans (PySem.W.mg_of X G x40.a);cases e;have T:Txt K mg 40:={QW X G z0,QW X G z1,QW X G z2,QW X G z3,QW X G z4,QW X G z5,QW X G z6,QW X G z7,QW X G z8,QW X G z9,QW X G z10,QW X G z11,QW X G z12,QW X G z13,QW X G z14,QW X G z15,QW X G z16,QW X G z17,PySem.W.mg_of X G aT,tab};obtain⟨a13,⟨_,_,_,_,_,_,_,_,l13⟩,c13,k13⟩:=x13;have m13:=PySem.W.mg_of X G a13;have F13:=rV (st:=top 19) l13 c13 k13;have b13:=F13.binds (ps:=["net", "standing"]) λ_ _ _ _ _ _ us hl=>by obtain⟨_,_,rfl⟩:=zJ hl;rfl
 obtain⟨a40,⟨_,_,kV,dc,pm,an,ct,_,l40⟩,c40,k40⟩:=x40;have m40:=PySem.W.mg_of X G a40;have F40:=rV (st:=top 50) l40 c40 k40;have b40:=F40.binds (ps:=["script"]) λ_ _ _ _ _ _ us hl=>by obtain⟨_,rfl⟩:=zK hl;rfl
 refine{PySem.W.fnOf "law" "law" (dI (top 50)) (cJ (top 50)) (aB (top 50)) .none kV dc pm an (.ref 297) ct,λs v=>.of_eq rfl,λbase KB _ BM=>?_};have CT0:=PySem.W.codeHd_of_K KB h13;have FC13:FunC K "steps_found" "steps_found" (top 19) 134 _ 133:=⟨_,_,_,_,_,_,_,_,rfl,l13,c13⟩;have g25:=x25.go l.prog w base X G λ_ F _ _=>wj F T;have g26:=x26.go l.prog w base X G λ_ F _ _=>uC F T;have g28:=x28.go l.prog w base X G λ_ F _ _=>ya F T;have g29:=x29.go l.prog w base X G λ_ F _ _=>uE F T g28;have g27:=x27.go l.prog w base X G λ_ F m b=>qc F T m x27.k b 10;have g30:=x30.go l.prog w base X G λ_ F _ _=>uF F T;have g31:=x31.go l.prog w base X G λ_ F _ _=>xX F T g26 g29 g27 g30;have g32:=x32.go l.prog w base X G λ_ F _ _=>ux F T;have g33:=x33.go l.prog w base X G λ_ F m b=>mF F T m x33.k b 10;have g34:=x34.go l.prog w base X G λ_ F _ _=>rp F T g33;have g35:=x35.go l.prog w base X G λ_ F _ _=>wc F T g34;have g2:=x2.go l.prog w base X G λ_ F _ _=>AA F T;have g5:=x5.go l.prog w base X G λ_ F _ _=>xZ F T g2;have g6:=x6.go l.prog w base X G λ_ F _ _=>wm F T g5;have g12:=x12.go (sp:=(nA l.prog w K mg base 13)) l.prog w base X G λ_ F _ _=>wg F T;have g3:=x3.go l.prog w base X G λ_ F _ _=>wf F T;have g4:=x4.go l.prog w base X G λ_ F _ _=>v_ F T g3;have g9:=x9.go l.prog w base X G λ_ F _ _=>rm F T g4;have g7:=x7.go l.prog w base X G λ_ F m b=>qg F T m x7.k b 10;have g8:=x8.go l.prog w base X G λ_ F _ _=>v9 F T g7;have g10:=x10.go l.prog w base X G λ_ F _ _=>uw F T;have g11:=x11.go l.prog w base X G λ_ F _ _=>wb F T g9 g8 g10;have g13:Fn l.prog w K mg base "steps_found" ["net", "standing"] 15 (gh 129):={_,_,rl FC13 T CT0 BM g12 g11,m13,k13,b13};have g14:=x14.go l.prog w base X G λ_ F _ _=>rn F T;have g17:=x17.go l.prog w base X G λ_ F _ _=>wn F T;have g18:=x18.go l.prog w base X G λ_ F _ _=>xY F T g17 g14;have g19:=x19.go l.prog w base X G λ_ F _ _=>AB F T g6 g13 g14 g18;have g36:=x36.go l.prog w base X G λ_ F _ _=>xU F T g34;have g37:=x37.go l.prog w base X G λ_ F _ _=>uD F T;have g20:=x20.go l.prog w base X G λ_ F _ _=>uB F T g6 g13 g14 g18;have g38:=x38.go l.prog w base X G λ_ F _ _=>uA F T g36 g37 g20;have g39:=x39.go l.prog w base X G λ_ F _ _=>yc F T g32;have g0:=x0.go l.prog w base X G λ_ F _ _=>xV F T;have g1:=x1.go l.prog w base X G λ_ F _ _=>wa F T;have g21:=x21.go l.prog w base X G λ_ F _ _=>xW F T g0 g1;have g15:=x15.go l.prog w base X G λ_ F _ _=>rq F T g5;have g22:=x22.go l.prog w base X G λ_ F _ _=>x_ F T g21 g15;have g16:=x16.go l.prog w base X G λ_ F _ _=>qe F T;have g23:=x23.go l.prog w base X G λ_ F _ _=>yb F T;have g24:=x24.go l.prog w base X G λ_ F _ _=>uz F T g6 g22 g11 g16 g23 g14;exact we F40 T g25 g31 g32 g35 g19 g36 g38 g39 g24
theorem Ei {l:PySem.W.OpenLaw} {q:Program} {loose:List Str} {XP:F3->Heap->Prop} {d:DefRec} {K:Params->PySem.W.Frag} {as:F4} {e:∀P,as=(K P).map (·.1)} (hn:l.most=some 63) (hdf:d.params.defaults=[]) (ok:∀w:World,ip (K w.params) [TL0]=true)
  (F:∀(w:World) (mg:F3) (fa:Addr) (h:Heap),(K w.params).In h->h.Ns mainGlobals mg->mg d.name=some (.ref fa) ->
   ∃fd:FuncData,(∀(s:Shared) (u:Value),BindsTo s fd {[u],[]} [("script", u)])/\∀base:Heap,(K w.params).In base->base.Ns mainGlobals mg->L2.gK base mg->FnOk l.prog w (K w.params) mg base CX0 18 fa fd ["script"] (sL (K w.params) TL0)) :
  PySem.W.WalkO q loose XP (PySem.W.kmHook K as e [TL0]).says l.row.toRowW d [] (λf vs=>PySem.call f vs) :=
 L2.ve (n:=63) (k:=18) (x := "script") (CX:=λ_=>CX0) (sp:=λw=>sL (K w.params) TL0) hn (by decide) hdf {rfl,by decide,by decide} ok F (λ_ _ a ns hl hT hS=>{a,ns,rfl,hS,hl,(.inl (hT _ (by simp))),λ_=>rfl}) λ_ _ _ _ _ z=>z
end K2
open PySem PySem.W PyProof.Rows
set_option maxRecDepth 100000 in
set_option maxHeartbeats 0 in
theorem PySem.Challenge.cw_anydelay_k26_whole_no_paper_lies_holds : PySem.Challenge.rw_anydelay_k26_whole_no_paper_lies.Holds := by
 w_on;refine holds_law K2.sdQ fun said=>?_
 refine holds_open (q:=K2.vw) (loose:=[("TURNED" : Str)]) (Xt:=λs=>xlAt K2.vw [] s&&recOk (RowW.records PySem.Challenge.rw_anydelay_k26_whole_no_paper_lies.row.toRowW) s) (XP:=XL K2.vw []) (Yf:=Hook.obs K2.hk) (Ya:=Hook.val K2.hk) (YP:=Hook.says K2.hk) (N:=3622) K2.left (Hook.of K2.hk) (Hook.keeps K2.hk) (λs e=>xl_of s (Bool.and_eq_true_iff.mp e).1) XL.keeps (by rfl) (by rfl) (by rfl) (λs e=>recFacts_of (Bool.and_eq_true_iff.mp e).2) (by rfl) (by first|assumption|decide +kernel) (by decide +kernel) {rfl,rfl,rfl,rfl,rfl,by decide +kernel} ?hw ?hc
 (case hw=>w_witness2)
 refine K2.Ei (l:=PySem.Challenge.rw_anydelay_k26_whole_no_paper_lies) (K:=K2.KF) (as:=[3,40,46,47,53,54,58,59,63,64,70,71,77,78,84,85,91,92,98,99,105,106,112,113,119,120,126,127,133,134,138,139,143,144,148,149,153,154,158,159,165,166,172,173,179,180,184,185,189,190,194,195,201,202,206,207,213,214,220,221,225,226,232,233,239,240,244,245,251,252,256,257,263,264,268,269,275,276,285,286,292,293,297,298]) (e:=λ_=>rfl) rfl rfl (λw=>by kernel_rfl) ?F
 case F =>
  intro w mg fa h KX G hmg;refine' K2.A2 KX G hmg ?_ ?_ ?_ ?_ ?_ ?_ ?_ ?_ ?_ ?_ ?_ ?_ ?_ ?_ ?_ ?_ ?_ ?_ ?_ ?_ ?_ ?_ ?_ ?_ ?_ ?_ ?_ ?_ ?_ ?_ ?_ ?_ ?_ ?_ ?_ ?_ ?_ ?_ ?_ ?_ ?_ ?_ ?_ ?_ ?_ ?_ ?_ ?_ ?_ ?_ ?_ ?_ ?_ ?_ ?_ ?_ ?_ ?_ ?_ ?_ ?_ ?_
  all_goals first|exact{by kernel_rfl,⟨_,_,_,_,_,_,_,_,rfl⟩,by kernel_rfl,by kernel_rfl}|kernel_rfl|rfl|decide|decide +kernel
