import PyProof.Rows.All
import Wide.All
import OpenK.AllK
import Wide.FinOn
import Lean
import PyProof.EqAt
import PyProof.EqKinds
import PyProof.TupleCall
import PyProof.NeKinds
import KE.KTabLook
import KE.KIntText
import KE.KUnpack
import PyProof.StrBlock2
import KE.KLam
import PyProof.Rows.SortShellK
import PyProof.Rows.SortKeyStr
import KE.KDictSum
import KE.KItemsList
import PyProof.Rows.SortStr
import KE.KDictLaws
import PyProof.DictWalks
import PyProof.Rows.StrInSeq3
import PyProof.FactsAll.list_1
import PyProof.ZipIter
import PyProof.Draws
import PyProof.AttrMissHeap
import PyProof.DictUpdate
import PyProof.ListNew
import PyProof.FactsAll.dict_1
import PyProof.Rows.DictSet
import PyProof.ForAppend
import KE.KRevSl
import PyProof.Rows.StrNews
import PyProof.StrLawsTight
import KE.KRevIter
import PyProof.ListRange
import PyProof.DictItemsLoops
import PyProof.CompUse
import PyProof.EnumMake
import PyProof.Rows.CallKwBuiltin
import OpenK.KMore
import PyProof.Rows.SeqIn
import KE.KSortTup
import KE.KDictList
import PyProof.PureStr
import PyProof.FitsStr
import KE.KEqDict
import PyProof.ConsumeS
import PyProof.WalkInts
import PyProof.SeqI3
import PySem.Challenge.RW_anydelay_k23_papers_let_by_or_not
import KE.BitLaws
set_option hygiene false in
local macro_rules|`(tactic|w_up)=>`(tactic|refine Fu.ok S (by room) (λcdv A outer s H vs Q E hr h=>?_))
local macro_rules|`(~~~$x)=>`(by simpa using $x)
local macro_rules|`(⇑$x)=>`(by exact $x)
local macro_rules|`(-$x)=>`(some $x)
local macro_rules|`({$xs:term,*})=>`(⟨$xs,*⟩)
local macro_rules|`(⋯)=>`(by omega)
namespace PySem
abbrev J0:=Value->Shared->Prop
abbrev J5:=List (Addr × Obj)
abbrev J6:=Str->Option Value
abbrev J7:=List Addr
end PySem
set_option linter.all false
set_option maxRecDepth 100000
set_option Elab.async false
abbrev Qa:=@List.length_map
abbrev Qb:=@PySem.wpAny_bind
abbrev Qc:=@List.getElem?_eq_getElem
abbrev Qd:=@PySem.Heap.get?_push_of_some
abbrev Qe:=@List.getElem?_eq_some_iff
abbrev Qf:=@PySem.wpAny_pure
abbrev Qg:=@List.mem_of_getElem?
abbrev Qh:=@Nat.le_refl
abbrev Qi:=@List.getElem?_map
abbrev Qj:=@List.mem_map
abbrev Qk:=@List.length_append
abbrev Ql:=@List.size_toArray
abbrev Qm:=@PySem.Heap.lt_size
abbrev Qn:=@Bool.false_ne_true
abbrev Qo:=@List.mem_iff_getElem
abbrev Qp:=@List.map_append
abbrev Qq:=@List.mem_append
abbrev Qr:=@PySem.Heap.get?_push_size
abbrev Qs:=@Array.length_toList
abbrev Qt:=@List.length_take
abbrev Qu:=@List.mem_singleton
abbrev Qv:=@PyProof.Rows.wpS_bind
abbrev Qw:=@List.take_of_length_le
abbrev Qx:=@List.mem_cons_of_mem
abbrev Qy:=@PyProof.Rows.wpS_pure
abbrev Qz:=@Nat.ne_of_lt
abbrev QA:=@Array.getElem?_toList
abbrev QB:=@Nat.zero_le
abbrev QC:=@decide_eq_false
abbrev QE:=@if_neg
abbrev QF:=@if_pos
abbrev QG:=@Nat.lt_of_lt_of_le
abbrev QH:=@PySem.F.plainAttrs_list
abbrev QI:=@PySem.F.slot_list_append
abbrev QJ:=@PySem.F.type_list_append
abbrev QK:=@List.getElem?_append_right
abbrev QL:=@PySem.boot_len
abbrev QM:=@List.all_eq_true
abbrev QN:=@List.map_cons
abbrev QO:=@List.getElem?_append_left
abbrev QP:=@List.mem_cons
abbrev QQ:=@Array.toList_append
abbrev QR:=@List.map_map
abbrev QS:=@decide_eq_true
abbrev QT:=@List.length_cons
abbrev QU:=@List.getD_eq_getElem?_getD
abbrev QV:=@List.mem_append_right
abbrev QW:=@Bool.false_eq_true
abbrev QX:=@List.take_succ
abbrev QY:=@Nat.le_trans
abbrev QZ:=@PySem.W.mg_none_of
abbrev Q0:=@List.take_append_drop
abbrev Q2:=@Option.some.inj
abbrev Q3:=@PySem.wpAny_holding
abbrev Q4:=@PySem.Heap.get?_update_other
abbrev Q5:=@List.length_drop
abbrev Q6:=@List.nodup_cons
abbrev Q7:=@Array.getElem?_eq_getElem
abbrev Q8:=@List.lookup_cons
abbrev Q9:=@Array.getElem?_eq_some_iff
abbrev Xa:=@List.append_assoc
abbrev Xb:=@List.length_eq_zero_iff
abbrev Xc:=@Bool.eq_false_iff
abbrev Xd:=@List.getElem?_eq_none
abbrev Xe:=@PySem.Heap.size_push
abbrev Xf:=@PyProof.Rows.callWith_type1
abbrev Xg:=@List.pairwise_append
abbrev Xh:=@PySem.Around.under_plainId
abbrev Xi:=@PyProof.Rows.boot_sorted
abbrev Xj:=@Bool.and_eq_true
abbrev Xk:=@List.mem_cons_self
abbrev Xl:=@PySem.wpAny_setField_rec
abbrev Xm:=@List.eq_nil_of_length_eq_zero
abbrev Xo:=@List.getElem_mem
abbrev Xp:=@PyProof.Rows.boot_isinstance
abbrev Xq:=@Int.toNat_natCast
abbrev Xr:=@PySem.wpAny_mono
abbrev Xs:=@PySem.wpAny_field
abbrev Xu:=@PySem.codeAny_builtin
abbrev Xv:=@Array.size_append
abbrev Xw:=@List.nodup_append
abbrev Xx:=@Nat.le_of_lt
abbrev Xy:=@Nat.lt_of_le_of_lt
abbrev Xz:=@PyProof.Rows.wpS_forRange
abbrev XA:=@decide_eq_true_iff
abbrev XB:=@PyProof.Rows.boot_list
abbrev XC:=@PySem.sizeLine_eq
abbrev XD:=@Nat.add_sub_cancel_left
abbrev XE:=@Option.toList_some
abbrev XF:=@PySem.W.kia_one
abbrev XG:=@Nat.ne_of_gt
abbrev XH:=@PySem.wpAny_call_entry
abbrev XI:=@PySem.Heap.SameBut.update
abbrev XJ:=@Ne.symm
abbrev XM:=@of_decide_eq_true
abbrev XN:=@List.pairwise_map
abbrev XO:=@PySem.Heap.get?_update_self
abbrev XQ:=@PySem.builtinLookup_eq_fast
abbrev XR:=@PySem.Txt.slice_le
abbrev XS:=@PyProof.Rows.KeyOrd.kle_refl
abbrev XT:=@List.getElem?_drop
abbrev XU:=@PySem.wpAny_rule
abbrev XV:=@PySem.Obj.data_mapFields
abbrev XW:=@Nat.lt_succ_self
abbrev XX:=@List.mem_append_left
abbrev XY:=@PySem.wpAny_callSpecial?_slot
local macro_rules|`(tactic|z_go)=>`(tactic|first|exact .inl rfl|exact .inr rfl|assumption)
noncomputable section
namespace L2
open PySem
def dW (s:Stmt):Arguments:=match s with
 | .FunctionDef _ a _ _ _ _ _ _ _ _=>a
 | _=>{ posonlyargs:=[],args:=[],vararg:=none,kwonlyargs:=[],kw_defaults:=[],kwarg:=none,defaults:=[] }
def cL (s:Stmt):List Stmt:=match s with
 | .FunctionDef _ _ b _ _ _ _ _ _ _=>b
 | _=>[]
def aC (s:Stmt):Scope:=match s with
 | .FunctionDef _ _ _ _ _ _ sc _ _ _=>sc
 | _=>{ kind:=.function,names:=[],isGenerator:=false,isCoroutine:=false }
end L2
namespace K2
open PySem L2 PySem.W
def top (i:Nat):Stmt:=PySem.Challenge.pw_anydelay_k23_papers_let_by_or_not.main.body.getD i (.Pass {0,0,0,0})
noncomputable def kC (n:Str) (t:Nat) (l a fl:Int) (r:Addr) (x y:Value) (z:Addr) (u:Nat):Obj:={ cls:=.type "code", data:=.fields #[.str n t,.str n (t+1),.str "/claim/cut.py" (t+2),.int l 0,.int a 0,.int 0 0,.int 0 0,.int 3 0,.ref r,.bool true,.int fl 0,.ref (r+1),.none,x,y,.ref z,.int u 0,.int l 0,.str "/claim/cut.py" (u+1)] }
noncomputable def kF (n:Str) (i:Nat) (m:Str) (t:Nat) (c:Addr):Obj:={ cls:=.type "function", data:=.func { name:=n,qualname:=n,params:=dW (top i),body:=.stmts (cL (top i)),scope:=aC (top i),globals:=3,closure:=[],defaults:=.none,kwdefaults:=.none,pyModule:=.str m t,code:=.ref c } }
def kE (P:Params) (x:Str) (t:Nat) (v:Value):DictEntry:={ hash:=PyData.keyHash P x,key:=.str x t,val:=v }
noncomputable def KF (P:Params):Frag:=[(3,{ cls:=.type "dict", data:=.dict #[kE P "__name__" 165 (.str "law_anydelay_k23_papers_let_by_or_not" 421),kE P "__doc__" 166 .none,kE P "__package__" 167 .none,kE P "__loader__" 168 (.builtin "__main__.__loader__#opaque"),kE P "__spec__" 169 .none,kE P "__annotations__" 170 (.ref 6),kE P "__builtins__" 171 (.ref 4),kE P "__file__" 173 (.str "/claim/cut.py" 172),kE P "__cached__" 174 .none,kE P "NetError" 206 (.ref 24),kE P "NoStanding" 222 (.ref 37),kE P "TURNED" 231 (.ref 40),kE P "is_pair" 238 (.ref 47),kE P "is_whole" 245 (.ref 54),kE P "is_row" 251 (.ref 59),kE P "gates_of" 257 (.ref 64),kE P "wires_of" 264 (.ref 71),kE P "is_standing" 272 (.ref 78),kE P "check_standing" 280 (.ref 85),kE P "rule_holds" 289 (.ref 92),kE P "rule_worth" 297 (.ref 99),kE P "signs_in" 305 (.ref 106),kE P "turned_at" 313 (.ref 113),kE P "steps_from" 325 (.ref 120),kE P "found_from" 342 (.ref 127),kE P "steps_found" 351 (.ref 134),kE P "rests_in" 357 (.ref 139),kE P "is_paper" 365 (.ref 144),kE P "is_closed" 371 (.ref 149),kE P "standings_ahead" 379 (.ref 154),kE P "most_switchings" 385 (.ref 159),kE P "rest_paper" 395 (.ref 166),kE P "is_numbered" 402 (.ref 173),kE P "is_rest_paper" 408 (.ref 178),kE P "is_falling" 414 (.ref 183),kE P "rest_shows" 420 (.ref 188),kE P "_law_draws" 436 (.ref 195),kE P "_law_names" 442 (.ref 200),kE P "_law_rule" 455 (.ref 207),kE P "_law_held" 464 (.ref 214),kE P "_law_known" 470 (.ref 219),kE P "_law_deeper" 484 (.ref 226),kE P "_law_net" 502 (.ref 233),kE P "_law_standing" 508 (.ref 238),kE P "_law_holds" 518 (.ref 245),kE P "_law_asked" 524 (.ref 250),kE P "_law_ways" 530 (.ref 255),kE P "_law_levels" 544 (.ref 262),kE P "_law_one" 550 (.ref 267),kE P "_law_shows" 556 (.ref 272),kE P "_law_papers" 562 (.ref 277),kE P "_law_bent" 579 (.ref 284),kE P "_law_copy" 586 (.ref 291),kE P "law" 592 (.ref 296)] 54 }),
 (40,{ cls:=.type "dict", data:=.dict #[kE P "0" 225 (.str "1" 226),kE P "1" 227 (.str "0" 228)] 2 }),
 (46,kC "is_pair" 232 8 1 181 41 (.ref 43) (.ref 44) 45 236),
 (47,kF "is_pair" 5 "anydelay.nets" 223 46),
 (53,kC "is_whole" 239 10 1 181 48 (.ref 50) (.ref 51) 52 243),
 (54,kF "is_whole" 6 "anydelay.nets" 223 53),
 (58,kC "is_row" 246 12 2 181 55 .none .none 57 249),
 (59,kF "is_row" 7 "anydelay.nets" 223 58),
 (63,kC "gates_of" 252 16 1 181 60 .none .none 62 255),
 (64,kF "gates_of" 8 "anydelay.nets" 223 63),
 (70,kC "wires_of" 258 18 1 181 65 (.ref 67) (.ref 68) 69 262),
 (71,kF "wires_of" 9 "anydelay.nets" 223 70),
 (77,kC "is_standing" 265 20 2 181 72 (.ref 74) (.ref 75) 76 270),
 (78,kF "is_standing" 10 "anydelay.nets" 223 77),
 (84,kC "check_standing" 273 22 2 181 79 (.ref 81) (.ref 82) 83 278),
 (85,kF "check_standing" 11 "anydelay.nets" 223 84),
 (91,kC "rule_holds" 281 25 2 181 86 (.ref 88) (.ref 89) 90 287),
 (92,kF "rule_holds" 12 "anydelay.nets" 223 91),
 (98,kC "rule_worth" 290 34 2 181 93 (.ref 95) (.ref 96) 97 295),
 (99,kF "rule_worth" 13 "anydelay.nets" 223 98),
 (105,kC "signs_in" 298 36 2 181 100 (.ref 102) (.ref 103) 104 303),
 (106,kF "signs_in" 14 "anydelay.nets" 223 105),
 (112,kC "turned_at" 306 38 2 181 107 (.ref 109) (.ref 110) 111 311),
 (113,kF "turned_at" 15 "anydelay.nets" 223 112),
 (119,kC "steps_from" 314 40 2 181 114 (.ref 116) (.ref 117) 118 323),
 (120,kF "steps_from" 16 "anydelay.nets" 223 119),
 (126,kC "found_from" 328 48 2 181 121 (.ref 123) (.ref 124) 125 340),
 (127,kF "found_from" 18 "anydelay.orders" 326 126),
 (133,kC "steps_found" 343 63 2 181 128 (.ref 130) (.ref 131) 132 349),
 (134,kF "steps_found" 19 "anydelay.orders" 326 133),
 (138,kC "rests_in" 352 65 1 181 135 .none .none 137 355),
 (139,kF "rests_in" 20 "anydelay.orders" 326 138),
 (143,kC "is_paper" 360 68 2 181 140 .none .none 142 363),
 (144,kF "is_paper" 22 "anydelay.races" 358 143),
 (148,kC "is_closed" 366 72 1 181 145 .none .none 147 369),
 (149,kF "is_closed" 23 "anydelay.races" 358 148),
 (153,kC "standings_ahead" 374 78 1 181 150 .none .none 152 377),
 (154,kF "standings_ahead" 25 "anydelay.onerest" 372 153),
 (158,kC "most_switchings" 380 84 1 181 155 .none .none 157 383),
 (159,kF "most_switchings" 26 "anydelay.onerest" 372 158),
 (165,kC "rest_paper" 386 99 2 181 160 (.ref 162) (.ref 163) 164 393),
 (166,kF "rest_paper" 27 "anydelay.onerest" 372 165),
 (172,kC "is_numbered" 396 106 1 181 167 (.ref 169) (.ref 170) 171 400),
 (173,kF "is_numbered" 28 "anydelay.onerest" 372 172),
 (177,kC "is_rest_paper" 403 108 2 181 174 .none .none 176 406),
 (178,kF "is_rest_paper" 29 "anydelay.onerest" 372 177),
 (182,kC "is_falling" 409 112 2 181 179 .none .none 181 412),
 (183,kF "is_falling" 30 "anydelay.onerest" 372 182),
 (187,kC "rest_shows" 415 117 4 181 184 .none .none 186 418),
 (188,kF "rest_shows" 31 "anydelay.onerest" 372 187),
 (194,kC "_law_draws" 423 127 2 181 189 (.ref 191) (.ref 192) 193 434),
 (195,kF "_law_draws" 33 "law_anydelay_k23_papers_let_by_or_not" 421 194),
 (199,kC "_law_names" 437 150 2 181 196 .none .none 198 440),
 (200,kF "_law_names" 34 "law_anydelay_k23_papers_let_by_or_not" 421 199),
 (206,kC "_law_rule" 443 172 4 181 201 (.ref 203) (.ref 204) 205 453),
 (207,kF "_law_rule" 35 "law_anydelay_k23_papers_let_by_or_not" 421 206),
 (213,kC "_law_held" 456 182 3 181 208 (.ref 210) (.ref 211) 212 462),
 (214,kF "_law_held" 36 "law_anydelay_k23_papers_let_by_or_not" 421 213),
 (218,kC "_law_known" 465 184 3 181 215 .none .none 217 468),
 (219,kF "_law_known" 37 "law_anydelay_k23_papers_let_by_or_not" 421 218),
 (225,kC "_law_deeper" 471 199 4 181 220 (.ref 222) (.ref 223) 224 482),
 (226,kF "_law_deeper" 38 "law_anydelay_k23_papers_let_by_or_not" 421 225),
 (232,kC "_law_net" 485 207 2 181 227 (.ref 229) (.ref 230) 231 500),
 (233,kF "_law_net" 39 "law_anydelay_k23_papers_let_by_or_not" 421 232),
 (237,kC "_law_standing" 503 228 2 181 234 .none .none 236 506),
 (238,kF "_law_standing" 40 "law_anydelay_k23_papers_let_by_or_not" 421 237),
 (244,kC "_law_holds" 509 230 2 181 239 (.ref 241) (.ref 242) 243 516),
 (245,kF "_law_holds" 41 "law_anydelay_k23_papers_let_by_or_not" 421 244),
 (249,kC "_law_asked" 519 240 2 181 246 .none .none 248 522),
 (250,kF "_law_asked" 42 "law_anydelay_k23_papers_let_by_or_not" 421 249),
 (254,kC "_law_ways" 525 250 2 181 251 .none .none 253 528),
 (255,kF "_law_ways" 43 "law_anydelay_k23_papers_let_by_or_not" 421 254),
 (261,kC "_law_levels" 531 259 2 181 256 (.ref 258) (.ref 259) 260 542),
 (262,kF "_law_levels" 44 "law_anydelay_k23_papers_let_by_or_not" 421 261),
 (271,kC "_law_shows" 551 277 4 181 268 .none .none 270 554),
 (272,kF "_law_shows" 46 "law_anydelay_k23_papers_let_by_or_not" 421 271),
 (276,kC "_law_papers" 557 291 4 181 273 .none .none 275 560),
 (277,kF "_law_papers" 47 "law_anydelay_k23_papers_let_by_or_not" 421 276),
 (283,kC "_law_bent" 563 305 3 181 278 (.ref 280) (.ref 281) 282 577),
 (284,kF "_law_bent" 48 "law_anydelay_k23_papers_let_by_or_not" 421 283),
 (290,kC "_law_copy" 580 317 1 181 285 (.ref 287) (.ref 288) 289 584),
 (291,kF "_law_copy" 49 "law_anydelay_k23_papers_let_by_or_not" 421 290),
 (295,kC "law" 587 319 1 181 292 .none .none 294 590),
 (296,kF "law" 50 "law_anydelay_k23_papers_let_by_or_not" 421 295)]
noncomputable def hk:Hook:=kmHook KF [3,40,46,47,53,54,58,59,63,64,70,71,77,78,84,85,91,92,98,99,105,106,112,113,119,120,126,127,133,134,138,139,143,144,148,149,153,154,158,159,165,166,172,173,177,178,182,183,187,188,194,195,199,200,206,207,213,214,218,219,225,226,232,233,237,238,244,245,249,250,254,255,261,262,271,272,276,277,283,284,290,291,295,296] (λ_=>rfl) [129]
noncomputable def vw:Program:={ PySem.Challenge.pw_anydelay_k23_papers_let_by_or_not with main:={ PySem.Challenge.pw_anydelay_k23_papers_let_by_or_not.main with body:=[1,2,4,5,6,7,8,9,10,11,12,13,14,15,16,18,19,20,22,23,25,26,27,28,29,30,31,33,34,35,36,37,38,39,40,41,42,43,44,45,46,47,48,49,50].map top } }
def LW (w:World):Prop:=(openEnds treeTable PySem.Challenge.rw_anydelay_k23_papers_let_by_or_not.prog w 3590).map (λs=>(openSeen vw [("TURNED" : Str)] (importedModules PySem.Challenge.rw_anydelay_k23_papers_let_by_or_not.prog.main.body) (λs=>xlAt vw [] s&&recOk (RowW.records PySem.Challenge.rw_anydelay_k23_papers_let_by_or_not.row.toRowW) s) true s,Hook.obs hk s))=-(openGood vw [("TURNED" : Str)],Hook.val hk w)
set_option maxHeartbeats 0 in
theorem sd:PySem.Challenge.rw_anydelay_k23_papers_let_by_or_not.wellSaid=true:=by kernel_rfl
set_option maxHeartbeats 0 in
theorem F2:∀w:World,LW (w.withFollow "special-get-raises" false):=λw=>by unfold LW;kernel_rfl
set_option maxHeartbeats 0 in
theorem F1:∀w:World,LW (w.withFollow "special-get-raises" true):=λw=>by unfold LW;kernel_rfl
theorem left:LeftO PySem.Challenge.rw_anydelay_k23_papers_let_by_or_not.prog vw [("TURNED" : Str)] (λs=>xlAt vw [] s&&recOk (RowW.records PySem.Challenge.rw_anydelay_k23_papers_let_by_or_not.row.toRowW) s) (Hook.obs hk) (Hook.val hk) 3590:=λw=>byRow2 (P:=LW) "special-get-raises" F2 F1 w
end K2
section
variable {a b c d e f g h i j k l m n x r lo:Nat}
local macro_rules | `(tactic|kd_p) => `(tactic| (intros; first | solve_by_elim (maxDepth := 3) [Xx, QG, Xy, QY, Nat.lt_of_not_ge, Nat.lt_of_not_le, Nat.le_of_not_lt, Nat.ge_of_not_lt, Nat.le_add_right, Nat.le_add_left, Nat.sub_le, XW, Nat.le_succ, Nat.add_le_add_left, Nat.add_le_add_right, Nat.add_lt_add_left, Nat.add_lt_add_right, Nat.succ_le_of_lt, Nat.lt_of_succ_le, Nat.le_of_eq, Nat.le_antisymm, Nat.lt_of_le_of_ne, Qh, QB, Nat.sub_lt, Nat.succ_le_succ, Nat.lt_succ_of_le, Nat.le_of_lt_succ, Eq.symm, Eq.trans] | (subst_vars; solve_by_elim (maxDepth := 3) [Xx, QG, Xy, QY, Nat.lt_of_not_ge, Nat.lt_of_not_le, Nat.le_of_not_lt, Nat.ge_of_not_lt, Nat.le_add_right, Nat.le_add_left, Nat.sub_le, XW, Nat.le_succ, Nat.add_le_add_left, Nat.add_le_add_right, Nat.add_lt_add_left, Nat.add_lt_add_right, Nat.succ_le_of_lt, Nat.lt_of_succ_le, Nat.le_of_eq, Nat.le_antisymm, Nat.lt_of_le_of_ne, Qh, QB, Nat.sub_lt, Nat.succ_le_succ, Nat.lt_succ_of_le, Nat.le_of_lt_succ, Eq.symm, Eq.trans])))
theorem om0:a<=b->¬a<b->a=b:=by grind
theorem om1:a-b<=a-b:=by simp_all
theorem om2:¬b<a->a<=b:=by kd_p
theorem om3:c=b->b=d->a<c->a<b:=by kd_p
theorem om4:c<=b->c=a->a<=b:=by kd_p
theorem om5:a+1≠a:=by simp_all
theorem om6:b<a->a-(b+1)<a-b:=by omega
theorem om7:c=d->c=a->d=b->a=b:=by kd_p
theorem om8:a+(c+1)<b->a<b:=by grind
theorem om9:b=c->b=d->c=e->a<d->a<b:=by intros;simp_all
theorem IV:c=b->c=d->b=e->a<d->a<b:=by intros;simp_all
theorem FO:a+(b+1)<c->a+1+b<c:=by omega
theorem Bh:b=c->a<c->a<b:=by kd_p
theorem Fw:a<c->b=c->a<b:=by kd_p
theorem Fj:c=a->d=b->c=d->a=b:=by kd_p
theorem wq:a+64<b->a<b:=by grind
theorem Bg:a+64<b->a+1+8<b:=by grind
theorem Be:c=b->a<c->a<b:=by kd_p
theorem wo:b<=100000->a=b->a<=16777216:=by grind
theorem IU:b<=a->a<=c->a-b<=c-0:=by grind
theorem IT:a<b->a+(b-a) / 2+1<=b:=by grind
theorem IS:a<b+(c-b) / 2+1->a<=b+(c-b) / 2:=by kd_p
theorem IR:b<=c->a<b->a+(b-a) / 2<c:=by grind
theorem IQ:a<=a+(b-a) / 2:=by kd_p
theorem IP:b<=c->a<b->a+(b-a) / 2<=c:=by omega
theorem D4:a<=b->b-a<=c-max 0 c->a=b:=by grind
theorem IN:a<b->a+0<b:=by kd_p
theorem D1:a<c->¬b>=c-a->a+b<c:=by grind
theorem DX:a<2*a+1:=by grind
theorem IM:a<d->b<c->a+b<d->a+b+1<=a+min c (d-a):=by grind
theorem IL:a<c->a+min b (c-a)<=c:=by grind
theorem IK:a<b+c+1->a<=b+c:=by kd_p
theorem IJ:a<d->a+min b (d-a)<=c->b<d-a->a+b<=c:=by grind
theorem Bc:a<=b->a>=b->a=b:=by grind
theorem DW:b<=c->¬a>=b->a+(b-a) / 2<c:=by grind
theorem ym:¬a>=b->a<b:=by kd_p
theorem Bb:0<=a:=by kd_p
theorem II:a<c->d<b->¬b>=a+1->a-b<c:=by grind
theorem IH:¬a>=b+1->a<=b:=by kd_p
theorem IG:c<b->c<=a->a+1-min b (a+1)<=a-c:=by omega
theorem IF:a<c->b<=a->a-b<=c:=by grind
theorem IE:a<b+1-min c (b+1)->c<b+1->a<=b-c:=by grind
theorem ID:a<c->d<b->b<a+1->a-b<c:=by grind
theorem IC:a+1=b->a<b:=by kd_p
theorem Iz:a+b+1=a+(b+1):=by kd_p
theorem uE:a<=b->a+1<=b+1:=by kd_p
theorem Iy:a+b+1=a+1+b:=by grind
theorem DV:a<min b c->a<min b c:=by kd_p
theorem yk:a<min b c->a<b:=by grind
theorem DU:a+b<=c->min (a+b) c-a=b:=by intros;simp_all
theorem Ix:a+b+c=a+c+b:=by grind
theorem DT:c=d->a<=b->a<=b+c:=by grind
theorem Iw:a+b+c=a+(b+c):=by grind
theorem DS:a<=b->¬a=b->a<b:=by grind
theorem DR:a+d<=c->b<d->a+b<c:=by grind
theorem Iu:a+d<=c->b<=e->e<d->a+b<c:=by grind
theorem wn:a<=a+b:=by kd_p
theorem Is:b<=c->a+b<=a+c:=by kd_p
theorem Ir:b<c->a+b<a+c:=by kd_p
theorem wm:1<=a->0<a:=by kd_p
theorem DQ:1<=a->0<=a:=by kd_p
theorem Iq:1<=a->¬0+1=a->0+1<a:=by grind
theorem Ip:1<=b->1<=a->¬1=a->¬0+1=b->1<a:=by grind
theorem Ba:a+1<b->a<b:=by kd_p
theorem A_:a<b->¬a+1=b->a+1<b:=by omega
theorem yj:a+1+(b+1)<=a+1+b+1:=by kd_p
theorem DP:a+1<b->¬a+1+1=b->a+1+1<b:=by omega
theorem Io:a+1<b->a+(b-a)<=b:=by grind
theorem Im:b+1<a->0<a-b:=by grind
theorem Il:a<b->a+1+(b-(a+1))<=b:=by omega
theorem Ik:b<a->¬b+1=a->0<a-(b+1):=by omega
theorem DO:a+1+(b+1)<=a+1+b+1+1:=by kd_p
theorem Ij:a<c->b<=c-(a+1)->a+1+b<=c:=by grind
theorem DN:¬a>0->a=0:=by simp
theorem Ii:b<a->¬b+1=a->0<=a-(b+1)->0<a-(b+1):=by grind
theorem Ih:a+1<c->b<=c-a->a+b<=c:=by grind
theorem Ig:b+1<a->0<=a-b->0<a-b:=by omega
theorem Ie:1<=a->a=a-1+1:=by intros;simp_all
theorem DM:1<=a->a<=b->a-1<=b:=by grind
theorem Idz:1<=b->a+b+c=d+e->a+1+(b-1)+c=d+e:=by grind
theorem Ic:1<=c->a+b+c=d+e->a+1+b+(c-1)=d+e:=by grind
theorem Ib:a<min b c-d->a<min b c-d:=by intros;simp_all
theorem DL:b<min c d-a->a+b<c:=by omega
theorem DK:c<=a->a<=b->min a b-c=a-c:=by intros;simp_all
theorem DJ:a<=c->c<=b->a<=b:=by grind
theorem DI:c=d-e->a<=b->a<=b+c:=by grind
theorem uD:1<=a->a-1<a:=by grind
theorem Ia:1<=b->1<=c->¬a=0->¬c=1->1<=a:=by grind
theorem A9:1<=a->a<=b->a-1<b:=by omega
theorem A8:2<=a->a<=b->a-1<b:=by grind
theorem wj:2<=a->1<=a:=by kd_p
theorem Dx:1<=a->¬a-1=0->1<=a-1:=by omega
theorem Dw:2<=a->¬a-1=1->2<=a-1:=by grind
theorem H_:a<=b->0+a<=b:=by grind
theorem HZ:2<=a->a<=b->0+(a-1)<=b:=by grind
theorem HY:2<=a->a-1-1<a-1:=by grind
theorem HX:a<=b-1->a<=b-1:=by kd_p
theorem HW:¬a=1->¬a=0->2<=a:=by grind
theorem HV:2<=a->c=a-1-b->¬c>0->a-1-1<b:=by omega
theorem A7:a<=b->a<=b:=by simp
theorem FT:¬a=0->1<=a:=by grind
theorem FS:1<=a->c=a-b->¬c>0->a-1<b:=by omega
theorem FR:a<=b->b<1->a=b:=by intros;simp_all
theorem Ao:a<b+1->¬a<b->a=b:=by grind
theorem An:a<=b->1<=b->¬a=b->a<=b-1:=by grind
theorem Am:1<=b->b<=a->1<=a:=by omega
theorem wu:a<b->a<=b:=by kd_p
theorem FQ:a<=b->max a b=b:=by intros;simp_all
theorem FP:d<=a->b<d->¬(a<=b/\b<c):=by grind
theorem Al:1<=b->a+b-1=a+(b-1):=by grind
theorem FM:a<=b->¬a=b->max (a+1) b=b:=by grind
theorem tw:a+d<=e->b<d->c=e->a+b<c:=by omega
theorem FK:c+1<=b->a+b-1=a+(b-1):=by grind
theorem wt:b+1<=a->1<=a:=by grind
theorem Ak:c+1<=b->a<=a+b-(c+1):=by omega
theorem FJ:a+d<=e->b<d->c=e->a+b<=c:=by grind
theorem Aj:0+1<=a+1:=by kd_p
theorem FI:b+1-(0+1)<=a->a<b+1->a=b+1-1:=by grind
theorem FH:a+1<=b->a+1+1<=b+1:=by kd_p
theorem FG:a+1-1=a:=by kd_p
theorem FF:a<b+1->¬a=b->a<b:=by omega
theorem FE:a+d<=e->b<=d->f=e->c=e->a+b<=c:=by grind
theorem FD:b<=d->d<c->a<=a+b/\a+b<a+c:=by grind
theorem FC:b<c->a<=a+b/\a+b<a+c:=by intros;simp_all
theorem FB:c<=b->b<a->a-1-b<=a-1-c:=by omega
theorem FA:b<=c->c<a->a-1-b<a:=by grind
theorem Fy:b+1<=c->c<=a->1<=a:=by grind
theorem Fx:a+d<=e->b<=d->c=e->a+b<=c:=by grind
theorem Fv:1<=c->a+c<=b->a<b:=by grind
theorem Ft:b>1->a+b-1=a+(b-1):=by grind
theorem Fs:b>1->a<b->a<=b-1:=by grind
theorem Fr:a>1->a-1<a:=by omega
theorem Fq:a+d<=c->b<=d->a+b<=c:=by grind
theorem Fp:a<=c->c<b->a<b:=by grind
theorem Fo:1<=c->¬c>1->a<=b->b<c->a=b:=by grind
theorem Fm:a<=b->b<min (max c 1) d->c=0->a=b:=by grind
theorem Fl:b<=c->a<min (max b 1) c->¬b=0->a<b:=by grind
theorem Fk:min (max (max a 1) b) b=b:=by grind
theorem Fi:a<b->min a b=a:=by grind
theorem Fh:a<=a:=by simp
theorem Fg:a-0<=a-0:=by kd_p
theorem Ff:¬a>=b->a<=(a+b) / 2:=by grind
theorem Fe:b<=c->¬a>=b->(a+b) / 2<=c:=by grind
theorem Fd:¬a>=b->(a+b) / 2+1<=b:=by omega
theorem Fc:a<(b+c) / 2+1->a<=(b+c) / 2:=by kd_p
theorem Fa:b<=c->¬a>=b->(a+b) / 2<c:=by omega
theorem E_:c<=b->d<a->a+b-(a+c)<=a+b:=by kd_p
theorem E9:d<=c->a<b->¬a=b+c-(b+c-(b+d)):=by omega
theorem E8:a<b->min (a+1) b=a+1:=by grind
theorem Ai:c<=b->a+b-(a+c)<=a+b:=by kd_p
theorem E7:c<=b->a+b-(a+b-(a+c))=a+c:=by grind
theorem E6:c<b->a+b-1=a+(b-1):=by grind
theorem Ag:b<c->¬a+b=a+c:=by grind
theorem Af:c<b->¬(a+b<a+c/\a+c<=a+d):=by grind
theorem E5:c<=b->a<b+1->a<c->a<b:=by grind
theorem Ae:b=c->a+b=a+c:=by kd_p
theorem Ad:¬b=c->¬a+b=a+c:=by simp
theorem Ac:¬b<a->¬b=a->a<b:=by grind
theorem E4:a<=b->a<c->¬b<c->a<=b-1:=by grind
theorem E3:c<=b->d<=a->a<b+1->d<c->a-1<b:=by omega
theorem E2:d=c->b=c->a+b=a+c:=by kd_p
theorem E1:d=c->¬b=c->¬a+b=a+c:=by intros;simp_all
theorem EZ:c<=b->c=a->¬b=a->a<b:=by omega
theorem EY:c<=b->c=a->¬b=a->a<=b-1:=by grind
theorem EX:c<=a->a<b+1->c=d->¬a=d->a-1<b:=by grind
theorem EW:d<=b->¬d<c->¬d=c->¬a+b=a+c:=by grind
theorem EV:c<=b->¬c<a->¬c=a->a<b:=by grind
theorem EU:a<=b->a-1<=b-1:=by omega
theorem ET:c<=a->a<b+1->¬c<d->¬c=d->a-1<b:=by grind
theorem ES:c=a+b->¬a+b<c:=by intros;simp_all
theorem ER:c=a+b->a+b-c=0:=by intros;simp_all
theorem EQ:a=b+c->a+1=b+(c+1):=by kd_p
theorem EO:¬a+1<a:=by simp
theorem EN:1<=b->d=a+(b+(e+f))->a<=a+b+c:=by grind
theorem EM:1<=a->d=b+(a+(e+f))->a<=b+a+c-b:=by grind
theorem EL:a+b+c-a-b=c:=by grind
theorem EK:1<=b->c=d+(b+(e+f))->a<b->a<=b-1:=by grind
theorem EJ:1<=d->c=a+(b+(d+e))->a+b<=c:=by kd_p
theorem EI:1<=a->b=c+(a+(d+e))->0<a:=by kd_p
theorem EH:a<=b->a+(b-a)=b:=by intros;simp_all
theorem EG:a<=c->c<=b->a+(b-a)=b:=by grind
theorem EF:b<=a->a<=c->a-b<=c-b:=by grind
theorem EE:c=d+(b+(e+f))->g<=b->a<g->a<b:=by grind
theorem ED:1<=a->b=c+(a+(d+e))->a-1<a:=by grind
theorem EC:d=a+(b+(c+e))->a+b+c<=d:=by grind
theorem Ab:c<=b->a<c->a<b:=by grind
theorem EB:a=0->a<=b:=by intros;simp_all
theorem EA:d=a+(c+(e+f))->b<=c->a+min b c=a+b+0:=by intros;simp_all
theorem Ez:c<=d->e=c->a-b+min c d=a-b+c:=by intros;simp_all
theorem Ey:c=d->d<=b->a<d->a<=b:=by grind
theorem Ex:a<c->c<=b->a<=b:=by grind
theorem Aa:a<min b (c-d)->a<b:=by grind
theorem Ew:a+1<b->min a b=a:=by grind
theorem Ev:b=c+a->max 0 b<=c->a=0:=by grind
theorem Eu:b=c->c=d+a->d>=c->a=0:=by grind
theorem Et:c=d->¬b>=d->d=b->a<=b:=by kd_p
theorem Es:c=a->a=b+d->¬b>=a->1<=a-b:=by grind
theorem Er:c=b->b=a+d->¬a>=b->a+(b-a)<=c:=by intros;simp_all
theorem Ep:a<=c->1<=d->e=c->b=c+d->a+1<=b:=by grind
theorem Eo:a=b->a>1->a-2+1<b:=by grind
theorem En:a=c+d->a+b=c+(d+b):=by grind
theorem Em:a<=c->b≠0->a+1<=b+c:=by grind
theorem El:b=c->a<=c->a+0<=b+1:=by kd_p
theorem Ek:b=a->b<=1->a<=1:=by kd_p
theorem Ej:b=c->a+max 0 b<=b+1->a<=1:=by grind
theorem z_:a<=100000->a<=16777216:=by grind
theorem Ei:a<=100000->b=a->b<2->a<=16777216+1:=by grind
theorem Eh:a<=100000->b=a->¬b<2->2<=a:=by kd_p
theorem Eg:a<=100000->b=a->¬b<2->a<=16777216+1:=by grind
theorem Ef:a<=d+c->d<=b+1->a<=b+(c+1):=by grind
theorem Ee:a+2≠a+4:=by simp
theorem Ed:a+3≠a+4:=by simp_all
theorem Ec:a≠a+4:=by grind
theorem Eb:a+1≠a+4:=by simp_all
theorem Ea:a+2≠a+3:=by simp
theorem D_:a+2≠a:=by grind
theorem D9:a+2≠a+1:=by simp
theorem D8:a+3≠a:=by simp
theorem D7:a+3≠a+1:=by simp
theorem D6:a≠a+1:=by simp
theorem D5:b=a+5->a<=b:=by intros;simp_all
theorem D3:a<=a+1:=by simp
theorem zZ:b-a=0->a<=b->a=b:=by grind
theorem D2:a-b=0->0=a-b:=by kd_p
theorem zY:b-a=c+1->a<=b->a<b:=by grind
theorem zX:c<=b->a<=d->d<c->a<=b:=by grind
theorem zW:a-b=c+1->b<a->a-(b+1)=c:=by grind
theorem zV:a<b->a+1<=b:=by kd_p
theorem D0:a-b=c+1->b<a->a-(b+1)+1=a-b:=by omega
theorem DZ:a+(b+1)=a+1+b:=by grind
theorem DY:a-b=c+1->b<a->a-b=a-(b+1)+1:=by omega
theorem DH (h:k-l<=n-x):k-(l+(k-l)/2+1)<=n-(x+1):=by rw[Nat.add_assoc,<-Nat.sub_sub,<-Nat.sub_sub n x 1];exact QY (Nat.sub_le_sub_left (Nat.le_add_left 1 _) _) (Nat.sub_le_sub_right h 1)
theorem DF (h:k-l<=n-x) (e:l<k):l+(k-l)/2-l<=n-(x+1):=by rw[XD,<-Nat.sub_sub n x 1];exact QY (Nat.le_sub_one_of_lt (Nat.div_lt_self (Nat.sub_pos_of_lt e) (by decide))) (Nat.sub_le_sub_right h 1)
theorem DE (h:r-l<=k-x) (c:¬l>=r):r-((l+r)/2+1)<=k-(x+1):=by rw[<-Nat.sub_sub,<-Nat.sub_sub k x 1];exact Nat.sub_le_sub_right (QY (Nat.sub_le_sub_left ((Nat.le_div_iff_mul_le (by decide)).mpr (by rw[Nat.mul_two];exact Nat.add_le_add_left (Xx (Nat.lt_of_not_ge c)) _)) _) h) 1
theorem DC (h:r-l<=k-x) (c:¬l>=r):(l+r)/2-l<=k-(x+1):=by rw[<-Nat.sub_sub k x 1];refine QY ?_ (Nat.sub_le_sub_right h 1);rw[Nat.sub_sub,Nat.add_comm l 1,<-Nat.sub_sub];exact Nat.sub_le_sub_right (Nat.le_sub_one_of_lt ((Nat.div_lt_iff_lt_mul (by decide)).mpr (by rw[Nat.mul_two];exact Nat.add_lt_add_right (Nat.lt_of_not_ge c) _))) _
theorem zU (h:d<=x) (q:lo+x-d<=lo+i/\lo+i<lo+x):lo+x-d+(lo+x)-1-(lo+i)=lo+(x-d+x-1-i)/\x-d<=x-d+x-1-i/\x-d+x-1-i<x/\x-d<=i/\i<x:=by obtain⟨y,rfl⟩:∃y,x=y+d:={x-d,(Nat.sub_add_cancel h).symm};have e:lo+(y+d)-d=lo+y:=(by rw[<-Nat.add_assoc,Nat.add_sub_cancel]);rw[e]at q;rw[e,Nat.add_sub_cancel];obtain⟨p,rfl⟩:∃p,i=y+p:={i-y,(Nat.add_sub_of_le (Nat.le_of_add_le_add_left q.1)).symm};have l:=Nat.lt_of_add_lt_add_left (Nat.lt_of_add_lt_add_left q.2);obtain⟨z,rfl⟩:∃z,d=p+1+z:={d-(p+1),(Nat.add_sub_of_le l).symm};have t:∀u:Nat,u+y+(u+(y+(p+1+z)))-1-(u+(y+p))=u+(y+z):=(λu=>by rw[show u+y+(u+(y+(p+1+z)))=u+(y+p)+(u+(y+z))+1 by ac_rfl,Nat.add_sub_cancel,XD]);have t0:=t 0;simp only[Nat.zero_add]at t0;rw[t,t0];exact{rfl,Nat.le_add_right _ _,⋯,Nat.le_add_right _ _,Nat.add_lt_add_left l _}
theorem wg (q:i<n):lo+(lo+n)-1-(lo+i)=lo+(n-1-i):=by obtain⟨p,rfl⟩:∃p,n=i+1+p:={n-(i+1),(Nat.add_sub_of_le q).symm};rw[show lo+(lo+(i+1+p))=lo+i+(lo+p)+1 by ac_rfl,Nat.add_sub_cancel,XD,Nat.sub_sub,Nat.add_comm 1 i,XD]
theorem DB (h:k<=x):f+k+(x-k)-1=f+(x-1)\/x=0:=by obtain⟨y,rfl⟩:∃y,x=k+y:={x-k,(Nat.add_sub_of_le h).symm};rw[XD,Nat.add_assoc];cases (k+y);exact .inr rfl;exact .inl rfl
theorem DA (h:k<=x) (q:¬x-k=0) (z:m=x-k):k+(m-1)=x-1:=by subst z;rw[<-Nat.add_sub_assoc (Nat.pos_of_ne_zero q),Nat.add_sub_of_le h]
theorem Dz (h:2<=n) (q:¬n-1=1):2<=n-1:=Nat.le_sub_one_of_lt (Nat.lt_of_le_of_ne h λz=>q (by rw[<-z]))
theorem Dy (h:j=n-2-1\/j=n-2) (q:¬n<=1) (e:n=m):j+1<m:=by subst e;obtain⟨z,rfl⟩:∃z,n=z+2:={n-2,(Nat.sub_add_cancel (Nat.lt_of_not_le q)).symm};rw[Nat.add_sub_cancel]at h;rcases h with rfl|rfl;exact Nat.lt_succ_of_le (Nat.add_le_add_right (Nat.sub_le _ _) 1);exact XW _
end
namespace L2
open PySem PySem.Spec PyProof.Rows
abbrev Key:=Sum Int Str
def je:Key->Value->Bool
 | .inl k,v=>Value.isInt k v
 | .inr x,v=>Value.isStrOf x v
def IZ (w:World):Key->Int
 | .inl k=>hashInt k
 | .inr x=>hashStr w x
theorem bI:∀{k:Key} {v:Value},je k v=true->(∃i t,k=Sum.inl i/\v=Value.int i t)\/(∃x t,k=Sum.inr x/\v=Value.str x t)
 | .inl i,v,h=>by
  obtain⟨t,e⟩:=Value.isInt_shape (k:=i) (v:=v) h;exact .inl ⟨i,t,rfl,e⟩
 | .inr x,v,h=>by
  obtain⟨t,e⟩:=Value.isStrOf_shape (x:=x) (v:=v) h;exact .inr ⟨x,t,rfl,e⟩
theorem uV (i:Int) (t:Tok):je (.inl i) (.int i t)=true:=by simp[je,Value.isInt]
theorem uU (x:Str) (t:Tok):je (.inr x) (.str x t)=true:=by simp[je,Value.isStrOf]
theorem Bt (a b:Int):decide ((Sum.inl a:Key)=Sum.inl b)=(a==b):=by
 by_cases e:a=b
 ·subst e;simp
 have h:¬(Sum.inl a:Key)=Sum.inl b:=λq=>e (Sum.inl.inj q);rw[QC h];exact(beq_eq_false_iff_ne.mpr e).symm
theorem Bq (a b:Str):decide ((Sum.inr a:Key)=Sum.inr b)=decide (a=b):=by
 by_cases e:a=b
 ·subst e;simp
 have h:¬(Sum.inr a:Key)=Sum.inr b:=λq=>e (Sum.inr.inj q);rw[QC h,QC e]
theorem Bs (a:Int) (b:Str):decide ((Sum.inl a:Key)=Sum.inr b)=false:=QC (λq=>nomatch q)
theorem Br (a:Str) (b:Int):decide ((Sum.inr a:Key)=Sum.inl b)=false:=QC (λq=>nomatch q)
noncomputable def bq (prog:Program) (w:World):PySem.KeyKind prog w Key where
 is:=je
 hash:=IZ w
 inj:=λv a b ha hb=>by
  rcases bI ha with⟨i,t,rfl,rfl⟩|⟨x,t,rfl,rfl⟩
  ·rcases bI hb with⟨j,u,rfl,e⟩|⟨y,u,rfl,e⟩
   ·injection e with e1 _;rw[e1]
   exact nomatch e
  rcases bI hb with⟨j,u,rfl,e⟩|⟨y,u,rfl,e⟩
  ·exact nomatch e
  injection e with e1 _;rw[e1]
 byValue:=λk v h=>by
  rcases bI h with⟨i,t,rfl,rfl⟩|⟨x,t,rfl,rfl⟩ <;> rfl
 pyHash:=λhv h=>by
  rcases bI hv with⟨i,t,rfl,rfl⟩|⟨x,t,rfl,rfl⟩
  ·exact wpAny_pyHash_int h
  exact wpAny_pyHash_str h
 eqBool:=λhu hv h=>by
  rcases bI hu with⟨i,t,rfl,rfl⟩|⟨x,t,rfl,rfl⟩
  ·rcases bI hv with⟨j,u,rfl,rfl⟩|⟨y,u,rfl,rfl⟩
   ·rw[Bt]at h;exact wpAny_eqBool_int h
   rw[Bs]at h;exact SeqAt.EqAt.int_str i t y u _ _ _ _ h
  rcases bI hv with⟨j,u,rfl,rfl⟩|⟨y,u,rfl,rfl⟩
  ·rw[Br]at h;exact SeqAt.EqAt.str_int x t j u _ _ _ _ h
  rw[Bq]at h;exact wpAny_eqBool_str h
 «strs»:=λk x t v h=>by
  rcases bI h with⟨i,u,rfl,e⟩|⟨y,u,rfl,e⟩
  ·exact nomatch e
  injection e with e1 _;subst e1;cases v <;> rfl
theorem qt (prog:Program) (w:World) (i:Int) (t:Tok):(bq prog w).is (.inl i) (.int i t)=true:=uV i t
theorem gc (prog:Program) (w:World) (x:Str) (t:Tok):(bq prog w).is (.inr x) (.str x t)=true:=uU x t
inductive V where
 | non|bl (b:Bool)|int (i:Int)|str (x:Str)|byt (b:Array UInt8)|flt (b:UInt64)|ref (a:Addr)|ty (n:String)
 deriving DecidableEq
noncomputable def aY:V->Value->Prop
 | .non,u=>u=Value.none
 | .bl b,u=>u=Value.bool b
 | .int i,u=>∃t,u=Value.int i t
 | .str x,u=>∃t,u=Value.str x t
 | .byt b,u=>∃t,u=Value.bytes b t
 | .flt b,u=>∃t,u=Value.float b t
 | .ref a,u=>u=Value.ref a
 | .ty n,u=>u=Value.type n
abbrev ba:List V->List Value->Prop:=Paired aY
theorem ba.length {xs:List V} {us:List Value} (r:ba xs us):xs.length=us.length:=Paired.length r
theorem ba.get:∀{xs:List V} {us:List Value} {i:Nat} {x:V},ba xs us->xs[i]?=-x->∃u,us[i]?=-u/\aY x u
 | _,_,_,_,.nil,e=>by simp at e
 | _,_,0,_,.cons r _,e=>by simp at e;subst e;exact⟨_,rfl,r⟩
 | _,_,i+1,x,.cons _ t,e=>by
  obtain⟨u,h1,h2⟩:=ba.get (i:=i) (x:=x) t (~~~e);exact{u,~~~h1,h2}
variable {u cd dV doc pm cdv ct oc:Value}
theorem ba.set {x:V} (r:aY x u):∀{xs:List V} {us:List Value} (i:Nat),ba xs us->ba (xs.set i x) (us.set i u)
 | _,_,_,.nil=>.nil
 | _,_,0,.cons _ t=>.cons r t
 | _,_,i+1,.cons q t=>.cons q (ba.set r i t)
theorem ba.append:∀{xs ys:List V} {us ws:List Value},ba xs us->ba ys ws->ba (xs++ys) (us++ws)
 | _,_,_,_,.nil,s=>s
 | _,_,_,_,.cons r t,s=>.cons r (ba.append t s)
theorem ba.take:∀{xs:List V} {us:List Value} (n:Nat),ba xs us->ba (xs.take n) (us.take n)
 | _,_,0,_=>.nil
 | _,_,_+1,.nil=>.nil
 | _,_,n+1,.cons r t=>.cons r (ba.take n t)
theorem ba.drop:∀{xs:List V} {us:List Value} (n:Nat),ba xs us->ba (xs.drop n) (us.drop n)
 | _,_,0,r=>r
 | _,_,_+1,.nil=>.nil
 | _,_,n+1,.cons _ t=>ba.drop n t
def lI:Option V->Option Value->Prop
 | some v,some u=>aY v u
 | none,none=>True
 | _,_=>False
def KV {κ:Type}:List (κ × V)->List (κ × Value)->Prop:=Paired λ(p:κ × V) (q:κ × Value)=>p.1=q.1/\aY p.2 q.2
def kV:Key->V
 | .inl i=>.int i
 | .inr x=>.str x
inductive HO where
 | lst (xs:List V)
 | tup (xs:List V)
 | dK (kvs:List (Key × V))|dT (kvs:List (List Key × V))
 | set (S:Int->Bool) (n:Nat)
 | ins (C dx:Addr) (fs:List (Str × V))
 | own (x:Addr)
 | xd (fs:List (Str × V))
 | met (f x:Addr)
 | rng (lo hi:Int)
 | frz (o:Obj) (u:HO)
 | tbl (ps:Array Value)
 | ext (φ:Heap->Prop)
abbrev Hp:=Addr->Option HO
def upd (H:Hp) (a:Addr) (o:HO):Hp:=λb=>if b=a then -o else H b
variable {o:HO} {a b it dx C f:Addr} {H H':Hp}
theorem ae:upd H a o a=-o:=by unfold upd;rw[QF rfl]
theorem am (h:b≠a):upd H a o b=H b:=by unfold upd;rw[QE h]
theorem xN {u:HO}:upd (upd H a o) a u=upd H a u:=by
 funext b;unfold upd;split <;> rfl
theorem FU {u:HO} (h:H a=-o) (h':H b=-u) (d:o≠u):a≠b:=by
 intro e;subst e;rw[h]at h';exact d (Q2 h')
theorem aG (h:H a=-o) (h':H b=none):a≠b:=by
 intro e;subst e;rw[h]at h';cases h'
section
variable (P:Program) (w:World)
noncomputable def bG (H:Hp) (h:Heap) (a:Addr):HO->Prop
 | .lst xs=>xs.length<=sizeLine/\∃(its:List Value) (n:Nat),ba xs its/\h.get? a=some { cls:=.type "list", data:=.seq its.toArray n }
 | .tup xs=>xs.length<=sizeLine/\∃its:List Value,ba xs its/\IsTup h a its.toArray
 | .dK kvs=>kvs.length<=sizeLine/\(a==sysModules)=false/\∃vs,KV kvs vs/\h.DictOf (bq P w) a vs
 | .dT kvs=>kvs.length<=sizeLine/\(a==sysModules)=false/\∃xs:List (List Key × Addr × Value),
   Paired (λ(p:List Key × V) (q:List Key × Addr × Value)=>p.1=q.1/\H q.2.1=-.tup (p.1.map kV)/\aY p.2 q.2.2) kvs xs /\
   ∃o es ep,h.get? a=-o/\o.ExactDict/\o.data=.dict es ep/\es.toList=xs.map (entryOfKey (tupleKind (bq P w)))/\(xs.map (·.1)).Nodup
 | .set S n=>h.SetOf (intKind P w) a S n
 | .ins C dx fs=>H dx=-.own a/\fs.length<=1000/\dx≠a/\h.get? a=some (PySem.W.instObj C dx) /\
   ∃mA,h.Ns1 dx mA/\(∀f,lI (fs.lookup f) (mA f))/\PySem.Within mA (fs.map (·.1))
 | .own _=>∃o,h.get? a=-o
 | .xd fs=>∃mA,h.Ns1 a mA/\∀f,lI (fs.lookup f) (mA f)
 | .rng lo hi=>∃t u v,h.get? a=some { cls:=.type "range", data:=.fields #[.int lo t,.int hi u,.int 1 v] }
 | .frz o u=>h.get? a=-o/\bG H h a u
 | .tbl ps=>h.get? a=some { cls:=.none,data:=.fields ps }
 | .met f x=>h.get? a=-PySem.W.methodObj (.ref f) (.ref x)
 | .ext φ=>φ h/\(∃o,h.get? a=some o)/\∀h1 h2:Heap,φ h1->(∀o,h1.get? a=some o->h2.get? a=some o)->φ h2
def HOk (H:Hp) (h:Heap):Prop:=∀a o,H a=-o->bG P w H h a o
end
section
variable {P:Program} {w:World} {H H':Hp} {h h':Heap} {a:Addr} {o:HO}
theorem bG.lt (x:bG P w H h a o):a<h.objs.size:=by
 cases o with
 | lst xs=>obtain⟨_,_,_,_,e⟩:=x;exact Qm e
 | tup xs=>obtain⟨_,_,_,p⟩:=x;exact p.lt
 | dK kvs=>obtain⟨_,_,_,_,o,_,_,e,_⟩:=x;exact Qm e
 | dT kvs=>obtain⟨_,_,_,_,o,_,_,e,_⟩:=x;exact Qm e
 | set S n=>obtain⟨o,_,_,_,e,_⟩:=x;exact Qm e
 | ins C dx fs=>obtain⟨_,_,_,e,_⟩:=x;exact Qm e
 | own y=>obtain⟨_,e⟩:=x;exact Qm e
 | xd fs=>obtain⟨_,⟨_,_,_,e,_⟩,_⟩:=x;exact Qm e
 | rng lo hi=>obtain⟨_,_,_,e⟩:=x;exact Qm e
 | frz ob u=>obtain⟨e,_⟩:=x;exact Qm e
 | tbl ps=>exact Qm (show h.get? a=-_ from x)
 | met f y=>exact Qm (show h.get? a=-_ from x)
 | ext φ=>obtain⟨_,⟨_,e⟩,_⟩:=x;exact Qm e
theorem Paired.mapP {α β:Type} {F G:α->β->Prop}:∀{l₁:List α} {l₂:List β},Paired F l₁ l₂->(∀a b,F a b->G a b)->Paired G l₁ l₂
 | _,_,.nil,_=>.nil
 | _,_,.cons r t,f=>.cons (f _ _ r) (Paired.mapP t f)
theorem bG.stay (x:bG P w H h a o) (k:∀b u,(b=a\/H b=-.own a)->h.get? b=-u->h'.get? b=-u)
  (ho:∀b,H b=-.own a->H' b=-.own a) (ht:∀b xs,H b=-.tup xs->H' b=-.tup xs):bG P w H' h' a o:=by
 induction o with
 | lst xs=>obtain⟨z,its,n,r,e⟩:=x;exact{z,its,n,r,k _ _ (.inl rfl) e}
 | tup xs=>obtain⟨z,its,r,ob,e,c⟩:=x;exact{z,its,r,ob,k _ _ (.inl rfl) e,c}
 | dK kvs=>obtain⟨z,y,vs,r,ob,es,ep,e,c⟩:=x;exact{z,y,vs,r,ob,es,ep,k _ _ (.inl rfl) e,c}
 | dT kvs =>
  obtain⟨z,y,xs,r,ob,es,ep,e,c⟩:=x;exact{z,y,xs,Paired.mapP r λp q z=>{z.1,ht _ _ z.2.1,z.2.2},ob,es,ep,k _ _ (.inl rfl) e,c}
 | set S n=>obtain⟨ob,es,ep,t,e,c⟩:=x;exact{ob,es,ep,t,k _ _ (.inl rfl) e,c}
 | ins C dx fs =>
  obtain⟨d,z,ne,e,mA,⟨od,es,ep,e2,c⟩,r⟩:=x;exact{ho _ d,z,ne,k _ _ (.inl rfl) e,mA,{od,es,ep,k _ _ (.inr d) e2,c},r}
 | own y=>obtain⟨ob,e⟩:=x;exact{ob,k _ _ (.inl rfl) e}
 | xd fs=>obtain⟨mA,⟨od,es,ep,e,c⟩,r⟩:=x;exact{mA,{od,es,ep,k _ _ (.inl rfl) e,c},r}
 | rng lo hi=>obtain⟨t,u,v,e⟩:=x;exact{t,u,v,k _ _ (.inl rfl) e}
 | frz ob u ih=>obtain⟨e,q⟩:=x;exact{k _ _ (.inl rfl) e,ih q}
 | tbl ps =>
  have e:h.get? a=some { cls:=.none,data:=.fields ps }:=x;show h'.get? a=some { cls:=.none,data:=.fields ps };exact k a _ (.inl rfl) e
 | met f y =>
  have e:h.get? a=-PySem.W.methodObj (.ref f) (.ref y):=x;show h'.get? a=-PySem.W.methodObj (.ref f) (.ref y);exact k a _ (.inl rfl) e
 | ext φ=>obtain⟨p,⟨o,e⟩,st⟩:=x;exact{st _ _ p λo q=>k _ _ (.inl rfl) q,{o,k _ _ (.inl rfl) e},st}
theorem HOk.lt (x:HOk P w H h) (e:H a=-o):a<h.objs.size:=(x a o e).lt
theorem HOk.fresh (x:HOk P w H h) (e:h.objs.size<=a):H a=none:=by
 cases q:H a with
 | none=>rfl
 | some u=>exact absurd (QG (x.lt q) e) (Nat.lt_irrefl _)
theorem HOk.kept (x:HOk P w H h) (k:∀b u,h.get? b=-u->h'.get? b=-u):HOk P w H h':=λa o e =>
 (x a o e).stay (λb u _ q=>k b u q) (λ_ q=>q) λ_ _ q=>q
theorem HOk.laid (x:HOk P w H h) (k:∀b u,h.get? b=-u->h'.get? b=-u) (hp:h.objs.size<=a) (new:bG P w (upd H a o) h' a o):HOk P w (upd H a o) h':=λb u e=>by
 have hn:=x.fresh hp;by_cases hb:b=a
 ·subst hb;rw[ae]at e;cases e;exact new
 rw[am hb]at e;exact(x b u e).stay (λc v _ q=>k c v q) (λc q=>by rw[am (aG q hn)];exact q) λc xs q=>by rw[am (aG q hn)];exact q
end
def Rd (H:Hp) (a:Addr) (u:HO):Prop:=H a=-u\/∃o,H a=-.frz o u
variable {h base:Heap} {w:World} {P:Program}
theorem Rd.ok {u:HO} (r:Rd H a u) (x:HOk P w H h):bG P w H h a u:=by
 rcases r with r|⟨o,r⟩
 ·exact x a u r
 obtain⟨_,q⟩:=x a _ r;exact q
def Mut:Option HO->Prop
 | some (.lst _)=>True
 | some (.dK _)=>True
 | some (.dT _)=>True
 | some (.set _ _)=>True
 | some (.ins _ _ _)=>True
 | some (.ext _)=>True
 | _=>False
section
variable {P:Program} {w:World} {H:Hp} {h h':Heap} {x e:Addr} {o':HO}
theorem HOk.write (ok:HOk P w H h) (mu:Mut (H x)) (he:e=x\/H e=-.own x) (k:∀b u,b≠e->h.get? b=-u->h'.get? b=-u) (heo:∃u,h'.get? e=-u)
  (new:bG P w (upd H x o') h' x o'):HOk P w (upd H x o') h':=λb u q=>by
 have nown:∀c y,H c=-.own y->c≠x:=λc y r z=>by subst z;rw[r]at mu;exact mu
 have ntup:∀c xs,H c=-.tup xs->c≠x:=λc xs r z=>by subst z;rw[r]at mu;exact mu
 by_cases hb:b=x
 ·subst hb;rw[ae]at q;cases q;exact new
 rw[am hb]at q;by_cases hbe:b=e
 ·have q':H b=-.own x:=by
   rcases he with z|z
   ·exact absurd (hbe.trans z) hb
   rw[hbe];exact z
  rw[q]at q';cases q';obtain⟨v,hv⟩:=heo;exact{v,by rw[hbe];exact hv}
 refine(ok b u q).stay (λc v hc r=>k c v ?_ r) (λc r=>by rw[am (nown c b r)];exact r) λc xs r=>by rw[am (ntup c xs r)];exact r
 rcases hc with rfl|hc
 ·exact hbe
 rintro rfl;rcases he with z|z
 ·exact nown c b hc z
 rw[hc]at z;cases z;exact hb rfl
end
structure Un (fs ex:J7) (H H':Hp) (h h':Heap):Prop where
 keep:∀b o,h.get? b=-o->H b=none->b∉fs->b∉ex->h'.get? b=-o
 slot:∀b o,h.get? b=-o->H b=none->b∈fs->b∉ex->∃sl,h'.get? b=some { o with slots:=sl }
 free:∀b o,h.get? b=-o->H b=none->b∉ex->H' b=none
 there:∀b o,h.get? b=-o->b∉ex->∃o',h'.get? b=-o'
 tups:∀b xs,H b=-.tup xs->H' b=-.tup xs
 frzs:∀b o u,H b=-.frz o u->H' b=-.frz o u
 tbls:∀b ps,H b=-.tbl ps->∃more,H' b=-.tbl (ps++more)
section
variable {fs fs' ex ex':J7} {H H1 H2:Hp} {h h1 h2 h':Heap} {a x e:Addr} {o:HO}
theorem Un.any (u:Un fs ex H H1 h h1) {b:Addr} {ob:Obj} (q:h.get? b=-ob) (n:H b=none) (hx:b∉ex):∃sl,h1.get? b=some { ob with slots:=sl }:=by
 by_cases hb:b∈fs
 ·exact u.slot b ob q n hb hx
 exact{ob.slots,u.keep b ob q n hb hx}
theorem Un.kept (k:∀b u,h.get? b=-u->h'.get? b=-u):Un fs ex H H h h' :=
 {λb ob q _ _ _=>k b ob q,λb ob q _ _ _=>{ob.slots,k b ob q},λ_ _ _ n _=>n,λb ob q _=>{ob,k b ob q},λ_ _ q=>q,λ_ _ _ q=>q,λ_ ps q=>{#[],by rw[q];simp} }
theorem Un.refl:Un fs ex H H h h:=Un.kept λ_ _ q=>q
theorem Un.laid (k:∀b u,h.get? b=-u->h'.get? b=-u) (hp:h.objs.size<=a) (hn:H a=none):Un fs ex H (upd H a o) h h' where
 keep:=λb u q _ _ _=>k b u q
 slot:=λb u q _ _ _=>{u.slots,k b u q}
 free:=λb u q n _=>by rw[am (Qz (QG (Qm q) hp))];exact n
 there:=λb u q _=>{u,k b u q}
 tups:=λb xs q=>by rw[am (aG q hn)];exact q
 frzs:=λb u xs q=>by rw[am (aG q hn)];exact q
 tbls:=λb ps q=>{#[],by rw[am (aG q hn),q];simp}
theorem Un.write (mu:Mut (H x)) (he:e=x\/H e=-.own x) (k:∀b u,b≠e->h.get? b=-u->h'.get? b=-u) (heo:∃u,h'.get? e=-u):Un fs ex H (upd H x o) h h':=by
 have hx:∀b,H b=none->b≠x:=λb n z=>by subst z;rw[n]at mu;exact mu
 have hb:∀b,H b=none->b≠e:=λb n z=>by
  subst z;rcases he with r|r
  ·exact hx b n r
  rw[n]at r;cases r
 have hm:∀b u,H b=-u->¬Mut (-u)->b≠x:=λb u q nm z=>by subst z;rw[q]at mu;exact nm mu
 refine{λb u q n _ _=>k b u (hb b n) q,λb u q n _ _=>{u.slots,k b u (hb b n) q},λb u q n _=>by rw[am (hx b n)];exact n,λb u q _=>?_,
  λb xs q=>by rw[am (hm b _ q λz=>z)];exact q,λb u xs q=>by rw[am (hm b _ q λz=>z)];exact q,λb ps q=>{#[],by rw[am (hm b _ q λz=>z),q];simp} }
 by_cases hbe:b=e
 ·subst hbe;exact heo
 exact{u,k b u hbe q}
end
def trk (h:Heap) (H:Hp):J7:=(List.range h.objs.size).filter λa=>(H a).isSome
def l_ (h:Heap) (H:Hp):Heap:=PySem.W.hideAll h (trk h H)
theorem u6 (h:Heap) (H:Hp):(l_ h H).objs.size=h.objs.size:=PySem.W.hideAll_size _ _
theorem w_ {o:Obj} (e:h.get? b=-o) (n:H b=none):(l_ h H).get? b=-o :=
 PySem.W.hideAll_get _ e λhm=>by
  have q:(H b).isSome=true:=(List.mem_filter.mp hm).2;rw[n]at q;simp at q
theorem yA {o:Obj} (e:(l_ h H).get? b=-o):h.get? b=-o/\H b=none:=by
 have e':h.get? b=-o:=PySem.W.of_hideAll (trk h H) e;refine{e',?_}
 cases q:H b with
 | none=>rfl
 | some x =>
 have hm:b∈trk h H:=List.mem_filter.mpr {List.mem_range.mpr (Qm e'),by simp[q]};have z:(l_ h H).get? b=none:=PySem.W.hideAll_none (trk h H) hm;rw[z]at e;cases e
structure Mod (K:PySem.W.Frag) (mg:J6) (base:Heap):Prop where
 kin:K.In base
 glob:base.Ns mainGlobals mg
 blt:∃mb,base.Ns builtinsNs mb/\∀x:Str,x ≠ "__name__" -> mb x=bootBuiltins x
 nolimit:base.NoLimit
/-- the context: a def's body (or a comprehension's block) running. base: fixed through the whole law;s₀,H₀: the fA;outer: the frames whose slots others may change (a def's callers);stack: all frames that run;
  ex: iterators that were made ahead of the fA and are walked here (a comprehension's);fn: the names whose cells were made at the fA (a def: all;a comprehension's block: its own);calm: not within an except suite;pn: pins that every state bears;xe: what is wanted of an exception that leaves the code -/
structure Cx where
 prog:Program
 w:World
 K:PySem.W.Frag
 mg:J6
 base:Heap
 A:Around
 N:List Str
 s₀:Shared
 H₀:Hp
 env:Env
 outer:List Env
 stack:List Env
 ex:J7
 fn:Str->Bool
 calm:Bool
 pn:J5
 xe:J0
def frs (l:List Env):J7:=l.filterMap (·.frame)
abbrev Cx.fs (X:Cx):J7:=frs X.outer
def Vis (sc:Scope) (x:Str):Prop:=sc.names.lookup x=-.local\/sc.names.lookup x=-.cell\/sc.names.lookup x=-.free
def Loc (sc:Scope) (x:Str):Prop:=sc.names.lookup x=-.local\/sc.names.lookup x=-.cell
def Jb (env:Env) (h:Heap) (m:J6) (x:Str) (u:Value):Prop :=
 (env.kindOf x=-.local/\m x=-u)\/((env.kindOf x=-.cell\/env.kindOf x=-.free)/\∃c,env.cells.lookup x=-c/\h.IsCell c (-u))
structure Cx.Ok (X:Cx):Prop where
 mod:Mod X.K X.mg X.base
 kind:X.env.scope.kind=.function
 glob:X.env.globals=mainGlobals
 blt:X.env.builtins=builtinsNs
 above:X.s₀.heap.objs.size<=X.env.locals
 inj:∀x y c,X.env.cells.lookup x=-c->X.env.cells.lookup y=-c->x=y
 has:∀x,(X.env.kindOf x=-.cell\/X.env.kindOf x=-.free)->∃c,X.env.cells.lookup x=-c
 cab:∀x c,X.fn x=true->X.env.cells.lookup x=-c->X.s₀.heap.objs.size<=c
 hd:X.calm=true->X.A.handled=none
 frames:X.A.frames=-X.stack
 stk:X.stack=X.outer\/(X.stack=X.env::X.outer/\X.env.frame=-X.env.locals)
 exf:∀b∈X.ex,b≠X.env.locals/\∀x c,X.env.cells.lookup x=-c->c≠b
 bs:∀b o,X.base.get? b=-o->X.s₀.heap.get? b=-o/\X.H₀ b=none
 bsz:X.base.objs.size<=X.s₀.heap.objs.size
 noex:∀b o,X.base.get? b=-o->b∉X.ex
 exfs:∀b∈X.ex,b∉X.fs
 funs:X.s₀.heap.FunFrames X.base X.outer
 frf:∀b∈X.fs,X.H₀ b=none
structure Inv (X:Cx) (pins:J5) (U:List (Option V)) (H:Hp) (s:Shared):Prop where
 ok:X.Ok
 os:s.os=X.s₀.os
 bare:AllBare s.gens
 base:Un X.fs X.ex X.H₀ H X.s₀.heap s.heap
 loc:∃m,s.heap.Ns X.env.locals m/\∀(i:Nat) (x:Str) (v:V),X.N[i]?=-x->U[i]?=- -v->Vis X.env.scope x->∃u,aY v u/\Jb X.env s.heap m x u
 cell:∀x c,X.env.cells.lookup x=-c->∃v,s.heap.IsCell c v
 free:H X.env.locals=none
 freeC:∀x c,X.env.cells.lookup x=-c->H c=none
 pin:∀p∈X.pn++pins,s.heap.get? p.1=-p.2/\H p.1=none/\p.1≠X.env.locals/\p.1∉X.fs/\∀v,p.2.data≠.cell v
 hok:HOk X.prog X.w H s.heap
 len:U.length=X.N.length
section
variable {X:Cx} {pins:J5} {U:List (Option V)} {H H':Hp} {s:Shared} {h':Heap}
theorem Cx.Ok.nofr (ok:X.Ok) {b:Addr} {o:Obj} (e:X.base.get? b=-o):b∉X.fs:=λhb=>by
 have:=(ok.funs.mem hb).1;rw[e]at this;cases this
theorem Inv.bs (I:Inv X pins U H s):∀b o,X.base.get? b=-o->s.heap.get? b=-o/\H b=none:=λb o e =>
 {I.base.keep b o (I.ok.bs b o e).1 (I.ok.bs b o e).2 (I.ok.nofr e) (I.ok.noex b o e),I.base.free b o (I.ok.bs b o e).1 (I.ok.bs b o e).2 (I.ok.noex b o e)}
theorem Inv.bk (I:Inv X pins U H s):∀b o,X.base.get? b=-o->s.heap.get? b=-o:=λb o e=>(I.bs b o e).1
theorem Inv.mod (I:Inv X pins U H s):Mod X.K X.mg X.base:=I.ok.mod
theorem Inv.kIn (I:Inv X pins U H s):X.K.In s.heap:=I.ok.mod.kin.keeps I.bk
theorem Inv.lt (I:Inv X pins U H s):X.env.locals<s.heap.objs.size:=let ⟨_,hn,_⟩:=I.loc;hn.lt
theorem Inv.sz (I:Inv X pins U H s):X.s₀.heap.objs.size<=s.heap.objs.size:=QY I.ok.above (Xx I.lt)
theorem Inv.nofs (I:Inv X pins U H s) {a:Addr} (h:s.heap.objs.size<=a):a∉X.fs:=λhb=>by
 obtain⟨_,o,ho,_⟩:=I.ok.funs.mem hb;exact absurd (QG (Qm ho) (QY I.sz h)) (Nat.lt_irrefl _)
theorem Inv.cne (I:Inv X pins U H s):∀x c,X.env.cells.lookup x=-c->c≠X.env.locals:=λx c e z=>by
 obtain⟨v,o,ho,hd⟩:=I.cell x c e;obtain⟨m,⟨o',es,ep,ho',hd',_⟩,_⟩:=I.loc;rw[z,ho']at ho;cases ho;rw[hd']at hd;cases hd
theorem Inv.funs (I:Inv X pins U H s):s.heap.FunFrames X.base X.outer:=by
 have all:∀(l:List Env),(∀b∈frs l,b∈X.fs)->X.s₀.heap.FunFrames X.base l->s.heap.FunFrames X.base l:=by
  intro l
  induction l with
  | nil=>intro _ _;trivial
  | cons env r ih =>
  intro hs hl;obtain⟨hk,⟨L,o,hf,hn,ho,hd⟩,hr⟩:=hl;have hL:L∈X.fs:=hs L (by unfold frs;rw[List.filterMap_cons,hf];exact Xk);obtain⟨sl,e⟩:=I.base.slot L o ho (I.ok.frf L hL) hL λz=>I.ok.exfs L z hL;exact{hk,⟨L,_,hf,hn,e,hd⟩,ih (λb hb=>hs b (by unfold frs;rw[List.filterMap_cons,hf];exact Qx _ hb)) hr}
 exact all X.outer (λ_ hb=>hb) I.ok.funs
theorem Inv.stack (I:Inv X pins U H s):s.heap.FunFrames X.base X.stack:=by
 rcases I.ok.stk with e|⟨e,hf⟩
 ·rw[e];exact I.funs
 rw[e];obtain⟨m,hn,_⟩:=I.loc;refine .cons (by rw[I.ok.kind];decide) hf hn ?_ I.funs;exact Heap.get?_none_of_le (QY I.ok.bsz I.ok.above)
theorem Inv.stkSub (I:Inv X pins U H s):∀b∈frs X.stack,b∈X.env.locals::X.fs:=λb hb=>by
 rcases I.ok.stk with e|⟨e,hf⟩
 ·rw[e]at hb;exact Qx _ hb
 rw[e]at hb;unfold frs at hb;rw[List.filterMap_cons,hf]at hb;exact hb
theorem Inv.stkFree (I:Inv X pins U H s):∀b∈frs X.stack,H b=none:=λb hb=>by
 rcases QP.mp (I.stkSub b hb) with e|hb
 ·rw[e];exact I.free
 obtain⟨_,o,ho,_⟩:=I.ok.funs.mem hb;exact I.base.free b o ho (I.ok.frf b hb) λz=>I.ok.exfs b z hb
theorem Inv.step {g':Array GenState} {t':Nat} {d':Drawn} {ch:J7} (I:Inv X pins U H s)
  (hch:∀b∈ch,(b∈X.ex\/X.s₀.heap.objs.size<=b)/\b≠X.env.locals/\(∀x c,X.env.cells.lookup x=-c->c≠b)/\∀p∈X.pn++pins,p.1≠b)
  (keep:∀b o,b≠X.env.locals->b∉X.fs->b∉ch->s.heap.get? b=-o->H b=none->h'.get? b=-o)
  (slot:∀b o,b≠X.env.locals->b∈X.fs->b∉ch->s.heap.get? b=-o->H b=none->∃sl,h'.get? b=some { o with slots:=sl }) (free:∀b o,b∉ch->s.heap.get? b=-o->H b=none->H' b=none)
  (there:∀b o,b∉ch->s.heap.get? b=-o->∃o',h'.get? b=-o')
  (tups:∀b xs,H b=-.tup xs->H' b=-.tup xs) (frzs:∀b o u,H b=-.frz o u->H' b=-.frz o u) (tbls:∀b ps,H b=-.tbl ps->∃more,H' b=-.tbl (ps++more))
  (ns:∀m,s.heap.Ns X.env.locals m->h'.Ns X.env.locals m) (hok:HOk X.prog X.w H' h') (hg:AllBare g') :
  Inv X pins U H' { s with heap:=h',gens:=g',drawn:=d',toks:=t' }:=by
 have neL:∀b o,X.s₀.heap.get? b=-o->b≠X.env.locals:=λb o e=>Qz (QG (Qm e) I.ok.above)
 have neC:∀b o,X.s₀.heap.get? b=-o->b∉X.ex->b∉ch:=λb o e hx hb=>by
  rcases(hch b hb).1 with z|z
  ·exact hx z
  exact absurd (QG (Qm e) z) (Nat.lt_irrefl _)
 have cellK:∀x c,X.env.cells.lookup x=-c->∀v,s.heap.IsCell c v->h'.IsCell c v:=λx c e v ⟨o,ho,hd⟩=>by
  have nch:c∉ch:=λz=>(hch c z).2.2.1 x c e rfl;by_cases hc:c∈X.fs
  ·obtain⟨sl,q⟩:=slot c o (I.cne x c e) hc nch ho (I.freeC x c e);exact⟨_,q,hd⟩
  exact{o,keep c o (I.cne x c e) hc nch ho (I.freeC x c e),hd}
 refine{I.ok,I.os,hg,{λb o e n hb hx=>?_,λb o e n hb hx=>?_,λb o e n hx=>?_,λb o e hx=>?_,λb xs e=>tups b xs (I.base.tups b xs e),λb o xs e=>frzs b o xs (I.base.frzs b o xs e),λb ps e=>?_},?_,λx c e=>?_,?_,λx c e=>?_,λp hp=>?_,hok,I.len}
 ·exact keep b o (neL b o e) hb (neC b o e hx) (I.base.keep b o e n hb hx) (I.base.free b o e n hx)
 ·obtain⟨sl,e1⟩:=I.base.slot b o e n hb hx;obtain⟨sl',e2⟩:=slot b _ (neL b o e) hb (neC b o e hx) e1 (I.base.free b o e n hx);exact⟨sl',e2⟩
 ·obtain⟨o',e1⟩:=I.base.there b o e hx;exact free b o' (neC b o e hx) e1 (I.base.free b o e n hx)
 ·obtain⟨o',e1⟩:=I.base.there b o e hx;exact there b o' (neC b o e hx) e1
 ·obtain⟨m1,e1⟩:=I.base.tbls b ps e;obtain⟨m2,e2⟩:=tbls b _ e1;exact{m1++m2,by rw[e2,Array.append_assoc]}
 ·obtain⟨m,hn,hl⟩:=I.loc;refine{m,ns m hn,λi x v e1 e2 e3=>?_};obtain⟨u,r,l⟩:=hl i x v e1 e2 e3;refine{u,r,?_};rcases l with l|⟨k,c,e,z⟩
  ·exact .inl l
  exact .inr {k,c,e,cellK x c e _ z}
 ·obtain⟨v,z⟩:=I.cell x c e;exact{v,cellK x c e v z}
 ·obtain⟨m,⟨o,_,_,ho,_⟩,_⟩:=I.loc;exact free _ o (λz=>(hch _ z).2.1 rfl) ho I.free
 ·obtain⟨v,o,ho,hd⟩:=I.cell x c e;exact free c o (λz=>(hch c z).2.2.1 x c e rfl) ho (I.freeC x c e)
 obtain⟨e,n,ne,nf,d⟩:=I.pin p hp;have nch:p.1∉ch:=λz=>(hch p.1 z).2.2.2 p hp rfl;exact{keep p.1 p.2 ne nf nch e n,free p.1 p.2 nch e n,ne,nf,d}
theorem Inv.un {t':Nat} (I:Inv X pins U H s) (u:Un X.fs [] H H' s.heap h') (hok:HOk X.prog X.w H' h'):Inv X pins U H' { s with heap:=h',toks:=t' }:=by
 obtain⟨m,⟨o,es,ep,ho,r⟩,_⟩:=id I.loc;obtain⟨sl,hL⟩:=u.any ho I.free (by simp)
 exact I.step (g':=s.gens) (d':=s.drawn) (ch:=[]) (λ_ z=>nomatch z) (λb o _ hb _ e n=>u.keep b o e n hb (by simp)) (λb o _ hb _ e n=>u.slot b o e n hb (by simp)) (λb o _ e n=>u.free b o e n (by simp)) (λb o _ e=>u.there b o e (by simp)) u.tups u.frzs u.tbls (λm' hm=>by
  obtain⟨o',es',ep',ho',r'⟩:=hm;rw[ho]at ho';cases ho'
  exact⟨_,es',ep',hL,r'⟩) hok I.bare
theorem Inv.call {g':Array GenState} {t':Nat} {d':Drawn} {ch:J7} (I:Inv X pins U H s) (u:Un (frs X.stack) ch H H' s.heap h') (hok:HOk X.prog X.w H' h') (hg:AllBare g')
  (hch:∀b∈ch,(b∈X.ex\/X.s₀.heap.objs.size<=b)/\b≠X.env.locals/\(∀x c,X.env.cells.lookup x=-c->c≠b)/\∀p∈X.pn++pins,p.1≠b) :
  Inv X pins U H' { s with heap:=h',gens:=g',drawn:=d',toks:=t' }:=by
 obtain⟨m,⟨o,es,ep,ho,r⟩,_⟩:=id I.loc;obtain⟨sl,hL⟩:=u.any ho I.free λz=>(hch _ z).2.1 rfl
 exact I.step (ch:=ch) hch (λb o hL hb hc e n=>u.keep b o e n (λz=>(QP.mp (I.stkSub b z)).elim hL hb) hc) (λb o _ _ hc e n=>u.any e n hc) (λb o hc e n=>u.free b o e n hc) (λb o hc e=>u.there b o e hc) u.tups u.frzs u.tbls (λm' hm=>by
  obtain⟨o',es',ep',ho',r'⟩:=hm;rw[ho]at ho';cases ho'
  exact⟨_,es',ep',hL,r'⟩) hok hg
theorem Inv.turned {t':Nat} {it:Addr} (I:Inv X pins U H s) (k:∀b o,b≠it->s.heap.get? b=-o->h'.get? b=-o) (hn:H it=none) (hL:it≠X.env.locals)
  (h1:it∈X.ex\/X.s₀.heap.objs.size<=it) (h2:∀x c,X.env.cells.lookup x=-c->c≠it) (h3:∀p∈X.pn++pins,p.1≠it):Inv X pins U H { s with heap:=h',toks:=t' }:=by
 have nit:∀b u,H b=-u->b≠it:=λb u e z=>by rw[z,hn]at e;cases e
 refine I.step (g':=s.gens) (d':=s.drawn) (ch:=[it]) (λb hb=>?_) (λb o _ _ hc e _=>k b o (λz=>hc (by simp[z])) e) (λb o _ _ hc e _=>{o.slots,k b o (λz=>hc (by simp[z])) e}) (λ_ _ _ _ n=>n)
  (λb o hc e=>{o,k b o (λz=>hc (by simp[z])) e}) (λ_ _ e=>e) (λ_ _ _ e=>e) (λb ps e=>{#[],by rw[e];simp}) (λm hm=>?_) (λb u e=>?_) I.bare
 ·have e:b=it:=by simpa using hb
  subst e;exact⟨h1,hL,h2,h3⟩
 ·obtain⟨o,es,ep,ho,r⟩:=hm;exact{o,es,ep,k _ o (XJ hL) ho,r}
 refine(I.hok b u e).stay (λc v hc q=>k c v ?_ q) (λ_ q=>q) λ_ _ q=>q;rcases hc with z|z
 ·rw[z];exact nit b u e
 exact nit c _ z
theorem Inv.tok (I:Inv X pins U H s) (t:Nat):Inv X pins U H { s with toks:=t }:=I.un (h':=s.heap) (t':=t) Un.refl I.hok
theorem Inv.kept {t':Nat} (I:Inv X pins U H s) (k:∀b u,s.heap.get? b=-u->h'.get? b=-u):Inv X pins U H { s with heap:=h',toks:=t' }:=I.un (Un.kept k) (I.hok.kept k)
theorem Inv.laid {a:Addr} {o:HO} {t':Nat} (I:Inv X pins U H s) (k:∀b u,s.heap.get? b=-u->h'.get? b=-u) (hp:s.heap.objs.size<=a) (new:bG X.prog X.w (upd H a o) h' a o) :
  Inv X pins U (upd H a o) { s with heap:=h',toks:=t' }:=I.un (Un.laid k hp (I.hok.fresh hp)) (I.hok.laid k hp new)
theorem Inv.write {x e:Addr} {o:HO} {t':Nat} (I:Inv X pins U H s) (mu:Mut (H x)) (he:e=x\/H e=-.own x) (k:∀b u,b≠e->s.heap.get? b=-u->h'.get? b=-u) (heo:∃u,h'.get? e=-u)
  (new:bG X.prog X.w (upd H x o) h' x o):Inv X pins U (upd H x o) { s with heap:=h',toks:=t' }:=I.un (Un.write mu he k heo) (I.hok.write mu he k heo new)
theorem Inv.weak {σ':List (Option V)} (I:Inv X pins U H s) (hl:σ'.length=U.length) (w:∀(i:Nat) v,σ'[i]?=- -v->U[i]?=- -v):Inv X pins σ' H s :=
 {I.ok,I.os,I.bare,I.base,let ⟨m,hn,hl'⟩:=I.loc;{m,hn,λi x v e1 e2 e3=>hl' i x v e1 (w i v e2) e3},I.cell,I.free,I.freeC,I.pin,I.hok,hl.trans I.len}
theorem Inv.pins_of {pins':J5} (I:Inv X pins U H s) (h:∀p∈pins',s.heap.get? p.1=-p.2/\H p.1=none/\p.1≠X.env.locals/\p.1∉X.fs/\∀v,p.2.data≠.cell v):Inv X pins' U H s :=
 {I.ok,I.os,I.bare,I.base,I.loc,I.cell,I.free,I.freeC,λp hp=>(Qq.mp hp).elim (λz=>I.pin p (XX _ z)) (h p),I.hok,I.len}
theorem qo {N:List Str} (hN:N.Nodup) {i j:Nat} {x:Str} (a:N[i]?=-x) (b:N[j]?=-x):i=j:=by
 obtain⟨h1,e1⟩:=Qe.mp a;obtain⟨h2,e2⟩:=Qe.mp b;exact(List.getElem_inj hN).mp (e1.trans e2.symm)
variable {Q:Unit->Shared->Prop} {E:J0}
theorem my {M:Model} {A:Around} {i:Nat} {x:Str} {v:V} {u:Value} (I:Inv X pins U H s) (hN:X.N.Nodup) (hi:X.N[i]?=-x) (hx:Loc X.env.scope x) (r:aY v u)
  (h:∀s',Inv X pins (U.set i (-v)) H s'->(∃a,Heap.SameBut a s.heap s'.heap/\(a=X.env.locals\/X.env.cells.lookup x=-a))->Q () s') (hf:X.fn x=true\/X.env.scope.names.lookup x=-.local:=by z_go):wpAny M A (storeName X.env x u) Q E s:=by
 obtain⟨m,hn,hl⟩:=id I.loc;have hcls:(X.env.scope.kind==.class || (X.env.scope.kind==.module&&X.env.locals != X.env.globals))=false:=by rw[I.ok.kind];rfl
 have hiσ:i<U.length:=by rw[I.len];exact(Qe.mp hi).1
 have cne:=I.cne
 have tracked:∀{a:Addr} {h':Heap},(∃o,s.heap.get? a=-o/\H a=none)->Heap.SameBut a s.heap h'->HOk X.prog X.w H h':=λ{a h'} ha hs b ob e=>by
  obtain⟨_,_,hfree⟩:=ha;refine(I.hok b ob e).stay (λc w' hc q=>(hs.2 c ?_).trans q) (λ_ q=>q) λ_ _ q=>q;rintro rfl;rcases hc with rfl|hc
  ·rw[hfree]at e;cases e
  rw[hfree]at hc;cases hc
 rcases hx with hk|hk
 ·refine wpAny_storeName_local hk hn (λh' hn' hs=>?_) hcls;obtain⟨oL,_,_,hoL,_⟩:=id hn;refine h _ {I.ok,I.os,I.bare,{λb o e n hb hx=>?_,λb o e n hb hx=>?_,I.base.free,λb o e hx=>?_,I.base.tups,I.base.frzs,I.base.tbls},{_,hn',λj y v' e1 e2 e3=>?_},λy c e=>?_,I.free,I.freeC,λp hp=>?_,tracked ⟨oL,hoL,I.free⟩ hs,~~~I.len} {_,hs,.inl rfl}
  ·exact(hs.2 b (Qz (QG (Qm e) I.ok.above))).trans (I.base.keep b o e n hb hx)
  ·obtain⟨sl,e1⟩:=I.base.slot b o e n hb hx;exact{sl,(hs.2 b (Qz (QG (Qm e) I.ok.above))).trans e1}
  ·obtain⟨o',e1⟩:=I.base.there b o e hx;exact{o',(hs.2 b (Qz (QG (Qm e) I.ok.above))).trans e1}
  ·by_cases hj:j=i
   ·subst hj;rw[hi]at e1;cases e1;rw[List.getElem?_set_self hiσ]at e2;cases e2;exact{u,r,.inl {hk,by simp} }
   rw[List.getElem?_set_ne (XJ hj)]at e2;obtain⟨u',r',q⟩:=hl j y v' e1 e2 e3;refine{u',r',?_};rcases q with⟨k,e⟩|⟨k,c,e,z⟩
   ·refine .inl {k,?_};have:y≠x:=λe=>hj (qo hN e1 (e▸hi));simp[this,e]
   exact .inr {k,c,e,z.sameBut hs (cne y c e)}
  ·obtain⟨w',z⟩:=I.cell y c e;exact{w',z.sameBut hs (cne y c e)}
  obtain⟨e,n,ne,nf,d⟩:=I.pin p hp;exact{(hs.2 p.1 ne).trans e,n,ne,nf,d}
 have hfn:X.fn x=true:=by
  rcases hf with z|z
  ·exact z
  rw[z]at hk;cases hk
 obtain⟨c,hc⟩:=I.ok.has x (.inl hk);obtain⟨w',z⟩:=I.cell x c hc;refine wpAny_storeName_cell I.ok.kind hk hc z (λh' hc' hs=>?_);obtain⟨oc,hoc,hocd⟩:=id z;refine h { s with heap:=h' } {I.ok,I.os,I.bare,{λb o e n hb hx=>?_,λb o e n hb hx=>?_,I.base.free,λb o e hx=>?_,I.base.tups,I.base.frzs,I.base.tbls},{m,hn.sameBut hs (XJ (cne x c hc)),λj y v' e1 e2 e3=>?_},λy c' e=>?_,I.free,I.freeC,λp hp=>?_,tracked {oc,hoc,I.freeC x c hc} hs,~~~I.len} {c,hs,.inr hc}
 ·exact(hs.2 b (Qz (QG (Qm e) (I.ok.cab x c hfn hc)))).trans (I.base.keep b o e n hb hx)
 ·obtain⟨sl,e1⟩:=I.base.slot b o e n hb hx;exact{sl,(hs.2 b (Qz (QG (Qm e) (I.ok.cab x c hfn hc)))).trans e1}
 ·obtain⟨o',e1⟩:=I.base.there b o e hx;exact{o',(hs.2 b (Qz (QG (Qm e) (I.ok.cab x c hfn hc)))).trans e1}
 ·by_cases hj:j=i
  ·subst hj;rw[hi]at e1;cases e1;rw[List.getElem?_set_self hiσ]at e2;cases e2;exact{u,r,.inr {.inl hk,c,hc,hc'} }
  rw[List.getElem?_set_ne (XJ hj)]at e2;obtain⟨u',r',q⟩:=hl j y v' e1 e2 e3;refine{u',r',?_};rcases q with q|⟨k,c',e,z'⟩
  ·exact .inl q
  refine .inr {k,c',e,z'.sameBut hs ?_};rintro rfl;exact hj (qo hN e1 (I.ok.inj _ _ _ e hc▸hi))
 ·by_cases hcc:c'=c
  ·subst hcc;exact⟨_,hc'⟩
  obtain⟨w2,z2⟩:=I.cell y c' e;exact{w2,z2.sameBut hs hcc}
 obtain⟨e,n,ne,nf,d⟩:=I.pin p hp;refine{(hs.2 p.1 ?_).trans e,n,ne,nf,d};intro q;rw[q,hoc]at e;have q':oc=p.2:=Q2 e;exact d w' (by rw[<-q'];exact hocd)
theorem jO {M:Model} {A:Around} {i:Nat} {x:Str} {v:V} {u:Value} (I:Inv X pins U H s) (hN:X.N.Nodup) (hi:X.N[i]?=-x) (hx:Loc X.env.scope x) (r:aY v u)
  (h:∀s',Inv X pins (U.set i (-v)) H s'->Q () s') (hf:X.fn x=true\/X.env.scope.names.lookup x=-.local:=by z_go):wpAny M A (storeName X.env x u) Q E s :=
 my I hN hi hx r (λs' I' _=>h s' I') hf
theorem Inv.call' {s':Shared} {ch:J7} (I:Inv X pins U H s) (ho:s'.os=s.os) (u:Un (frs X.stack) ch H H' s.heap s'.heap) (hok:HOk X.prog X.w H' s'.heap) (hg:AllBare s'.gens)
  (hch:∀b∈ch,(b∈X.ex\/X.s₀.heap.objs.size<=b)/\b≠X.env.locals/\(∀x c,X.env.cells.lookup x=-c->c≠b)/\∀p∈X.pn++pins,p.1≠b):Inv X pins U H' s':=by
 obtain⟨h',g',d',t',o'⟩:=s';have e:o'=s.os:=ho;subst e;exact I.call (g':=g') (t':=t') (d':=d') u hok hg hch
end
abbrev XK:=Value->Option Addr->Hp->Prop
abbrev St:=List (Option V)
abbrev VK:=V->Hp->Prop
abbrev TE:=St->Hp->VK->Prop
abbrev TT:=St->Hp->(Bool->Hp->Prop)->Prop
abbrev TA:=St->Hp->(List V->Hp->Prop)->Prop
structure Ends where
 nx:St->Hp->Prop
 rt:VK
 bk:St->Hp->Prop:=λ_ _=>False
 ct:St->Hp->Prop:=λ_ _=>False
abbrev TS:=Ends->St->Hp->Prop
def EP (X:Cx) (pins:J5) (U:St) (Q:VK) (u:Value) (s':Shared):Prop:=∃v H',Inv X pins U H' s'/\aY v u/\Q v H'
def TP (X:Cx) (pins:J5) (U:St) (Q:Bool->Hp->Prop) (b:Bool) (s':Shared):Prop:=∃H',Inv X pins U H' s'/\Q b H'
def AP (X:Cx) (pins:J5) (U:St) (Q:List V->Hp->Prop) (us:List Value) (s':Shared):Prop:=∃vs H',Inv X pins U H' s'/\ba vs us/\Q vs H'
def SP (X:Cx) (pins:J5) (D:Ends) (f:Flow) (s':Shared):Prop :=
 match f with
 | .next=>∃σ' H',Inv X pins σ' H' s'/\D.nx σ' H'
 | .brk=>∃σ' H',Inv X pins σ' H' s'/\D.bk σ' H'
 | .cont=>∃σ' H',Inv X pins σ' H' s'/\D.ct σ' H'
 | .ret u=>∃v σ' H',Inv X pins σ' H' s'/\aY v u/\D.rt v H'
def PE (X:Cx) (e:Expr) (t:TE):Prop :=
 ∀(pins:J5) (s:Shared) (U:St) (H:Hp) (Q:VK),Inv X pins U H s->t U H Q->wpAny (model X.prog X.w) X.A (eval e X.env) (EP X pins U Q) X.xe s
def PT (X:Cx) (e:Expr) (t:TT):Prop :=
 ∀(pins:J5) (s:Shared) (U:St) (H:Hp) (Q:Bool->Hp->Prop),Inv X pins U H s->t U H Q->wpAny (model X.prog X.w) X.A (isTrue e X.env (eval e X.env)) (TP X pins U Q) X.xe s
def PW (X:Cx) (e:Expr) (t:TT):Prop :=
 ∀(whole:Sem Value) (pins:J5) (s:Shared) (U:St) (H:Hp) (Q:Bool->Hp->Prop),Inv X pins U H s->t U H Q->wpAny (model X.prog X.w) X.A (isTrue e X.env whole) (TP X pins U Q) X.xe s
variable {e tg:Expr} {X:Cx}
theorem PW.pt {t:TT} (h:PW X e t):PT X e t:=h _
def PA (X:Cx) (es:List Expr) (t:TA):Prop :=
 ∀(pos:Pos) (pins:J5) (s:Shared) (U:St) (H:Hp) (Q:List V->Hp->Prop),Inv X pins U H s->t U H Q->wpAny (model X.prog X.w) X.A (spliced (backTo pos (starEach es X.env))) (AP X pins U Q) X.xe s
def PS (X:Cx) (st:Stmt) (t:TS):Prop :=
 ∀(pins:J5) (s:Shared) (U:St) (H:Hp) (D:Ends),Inv X pins U H s->t D U H->wpAny (model X.prog X.w) X.A (exec st X.env) (SP X pins D) X.xe s
def PSs (X:Cx) (st:List Stmt) (t:TS):Prop :=
 ∀(pins:J5) (s:Shared) (U:St) (H:Hp) (D:Ends),Inv X pins U H s->t D U H->wpAny (model X.prog X.w) X.A (execs st X.env) (SP X pins D) X.xe s
variable {s s1:Shared} {E:J0} {A:Around}
theorem thn {α:Type} {t:Sem α} {Q Q':α->Shared->Prop} {M:Model} (h:wpAny M A t Q E s) (hQ:∀a s,Q a s->Q' a s):wpAny M A t Q' E s:=Xr h hQ λ_ _ x=>x
section
variable {X:Cx}
def bY (i:Nat):TE:=λU H Q=>∃v,U[i]?=- -v/\Q v H
def tC (v:V):TE:=λ_ H Q=>Q v H
variable {x:Str}
theorem AS {i:Nat} {pos:Pos} (hN:X.N[i]?=-x) (hv:Vis X.env.scope x) (hd:(x==("__debug__" : Str))=false:=by decide) (hcd:(x==("__classdict__" : Str))=false:=by decide):PE X (.Name x pos) (bY i):=by
 intro pins s U H Q I h;obtain⟨v,e,h⟩:=h;obtain⟨m,hn,hl⟩:=I.loc;obtain⟨u,r,l⟩:=hl i x v hN e hv;have fin:EP X pins U Q u s:=⟨v,H,I,r,h⟩;rcases l with⟨hk,hm⟩|⟨hk,c,hc,hcell⟩
 ·exact wpAny_Name (wpAny_loadName_local I.ok.kind hk hn hm fin) hd
 rcases hk with hk|hk
 ·exact wpAny_Name (wpAny_loadName_cell I.ok.kind hk hc hcell fin) hd
 exact wpAny_Name (wpAny_loadName_free I.ok.kind hk hc hcell fin hcd) hd
theorem ad {i j pos}:PE X (.Constant (.int i) j pos) (tC (.int i)):=λ_ _ _ H _ I h=>wpAny_Constant_int {.int i,H,I.tok _,⟨_,rfl⟩,h}
theorem cW {b j pos}:PE X (.Constant (.bool b) j pos) (tC (.bl b)):=λ_ _ _ H _ I h=>Constant_bool {.bl b,H,I,rfl,h}
theorem oa {j pos}:PE X (.Constant .none j pos) (tC .non):=λ_ _ _ H _ I h=>Constant_none {.non,H,I,rfl,h}
theorem aP {x j pos}:PE X (.Constant (.str x) j pos) (tC (.str x)):=λ_ _ _ H _ I h=>Calls.Constant_str {.str x,H,I.tok _,⟨_,rfl⟩,h}
def Gl (X:Cx) (x:Str):Prop:=X.env.kindOf x=-.globalImplicit
variable {Q E:J0} {u:Value} {pins:J5}
theorem ou {s:Shared} {U:St} {H:Hp} {pos:Pos} (I:Inv X pins U H s) (hg:Gl X x) (hm:X.mg x=-u) (h:Q u s)
  (hd:(x==("__debug__" : Str))=false:=by decide):wpAny (model X.prog X.w) X.A (eval (.Name x pos) X.env) Q E s :=
 Calls.Name_function_global I.ok.kind hg (Calls.loadGlobal_global (by rw[I.ok.glob];exact I.mod.glob.keeps I.bk) hm h) hd
theorem d7 {s:Shared} {U:St} {H:Hp} {pos:Pos} (I:Inv X pins U H s) (hg:Gl X x) (hm:X.mg x=none) (hv:bootBuiltins x=-u) (h:Q u s)
  (hn:x ≠ "__name__" := by decide) (hd:(x==("__debug__" : Str))=false:=by decide):wpAny (model X.prog X.w) X.A (eval (.Name x pos) X.env) Q E s:=by
 obtain⟨mb,h1,h2⟩:=I.mod.blt;exact Calls.Name_function_global I.ok.kind hg (Calls.loadGlobal_builtin (by rw[I.ok.glob];exact I.mod.glob.keeps I.bk) hm (by rw[I.ok.blt];exact h1.keeps I.bk) ((h2 x hn).trans hv) h) hd
theorem tf {v:V} {pos:Pos} (hg:Gl X x) (hm:X.mg x=-u) (r:aY v u) (hd:(x==("__debug__" : Str))=false:=by decide):PE X (.Name x pos) (tC v) :=
 λ_ _ _ H _ I h=>ou I hg hm ⟨v,H,I,r,h⟩ hd
theorem fF {v:V} {pos:Pos} (hg:Gl X x) (hm:X.mg x=none) (hv:bootBuiltins x=-u) (r:aY v u) (hn:x ≠ "__name__" := by decide) (hd:(x==("__debug__" : Str))=false:=by decide):PE X (.Name x pos) (tC v) :=
 λ_ _ _ H _ I h=>d7 I hg hm hv ⟨v,H,I,r,h⟩ hn hd
variable {a b:Expr} {ta tb:TE} {pos:Pos}
def PC (X:Cx) (op:CmpOp) (a b:Expr) (t:TE):Prop :=
 ∀(pins:J5) (s:Shared) (U:St) (H:Hp) (Q:VK),Inv X pins U H s->t U H Q ->
  wpAny (model X.prog X.w) X.A (eval a X.env) (λv s₁=>wpAny (model X.prog X.w) X.A (eval b X.env) (λu s₂=>wpAny (model X.prog X.w) X.A (compareOp op v u) (EP X pins U Q) X.xe s₂) X.xe s₁) X.xe s
def tB (t:TE):TT:=λU H Q=>t U H λx H1=>∃c,x=.bl c/\Q c H1
variable {t:TE}
theorem AX {op:CmpOp} (h:PC X op a b t) (h1:behindInMarks op b=false:=by first|exact nobehind _ (by decide) (by decide)|rfl):PE X (.Compare a [op] [b] pos) t:=λpins s U H Q I hw=>wpAny_Compare1 (h pins s U H Q I hw) h1
theorem gX {op:CmpOp} (h:PC X op a b t) (h1:behindInMarks op b=false:=by first|exact nobehind _ (by decide) (by decide)|rfl):PT X (.Compare a [op] [b] pos) (tB t):=by
 intro pins s U H Q I hw;refine wpAny_isTrue_Compare1 (thn (h pins s U H _ I hw) λv s1 h1=>thn h1 λu s2 h2=>thn h2 λc s3 ⟨x,H1,I1,r1,q1⟩=>?_) h1;obtain⟨d,rfl,q⟩:=q1;cases r1;exact wpAny_truthy_bool ⟨H1,I1,q⟩
theorem eQ {e:Expr} (h:PE X e t) (he:∀whole,isTrue e X.env whole=(do let v <-whole;standAt e.pos;holding [v] (truthy v)):=by intro _;rfl):PT X e (tB t):=by
 intro pins s U H Q I hw;refine isTrue_plain (thn (h pins s U H _ I hw) λv s1 ⟨x,H1,I1,r1,q1⟩=>?_) (he _);obtain⟨d,rfl,q⟩:=q1;cases r1;exact wpAny_truthy_bool ⟨H1,I1,q⟩
variable {tA tB':TT} {rest:List Expr}
def BW (t u:TT):TT:=λU H Q=>t U H λc H1=>if c=true then u U H1 Q else Q false H1
def tOr (t u:TT):TT:=λU H Q=>t U H λc H1=>if c=true then Q true H1 else u U H1 Q
def BN (t:TT):TT:=λU H Q=>t U H λc H1=>Q (!c) H1
theorem jz (ha:PT X a tA):PW X (.BoolOp .And [a] pos) tA:=by
 intro wh pins s U H Q I h;refine isTrue_and (thn (ha pins s U H Q I h) λc s1 e=>?_)
 cases c with
 | true=>exact isTrue_and_nil e
 | false=>exact e
theorem eP (ha:PT X a tA):PW X (.BoolOp .Or [a] pos) tA:=by
 intro wh pins s U H Q I h;refine isTrue_or (thn (ha pins s U H Q I h) λc s1 e=>?_)
 cases c with
 | false=>exact isTrue_or_nil e
 | true=>exact e
theorem n5 (ha:PT X a tA) (hb:PW X (.BoolOp .And (b::rest) pos) tB'):PW X (.BoolOp .And (a::b::rest) pos) (BW tA tB'):=by
 intro wh pins s U H Q I h;refine isTrue_and (thn (ha pins s U H _ I h) λc s1 ⟨H1,I1,q1⟩=>?_)
 cases c with
 | true=>exact hb wh pins s1 U H1 Q I1 q1
 | false=>exact⟨H1,I1,q1⟩
theorem fj (ha:PT X a tA) (hb:PW X (.BoolOp .Or (b::rest) pos) tB'):PW X (.BoolOp .Or (a::b::rest) pos) (tOr tA tB'):=by
 intro wh pins s U H Q I h;refine isTrue_or (thn (ha pins s U H _ I h) λc s1 ⟨H1,I1,q1⟩=>?_)
 cases c with
 | true=>exact⟨H1,I1,q1⟩
 | false=>exact hb wh pins s1 U H1 Q I1 q1
theorem fe (ha:PT X a tA):PT X (.UnaryOp .Not a pos) (BN tA):=by
 intro pins s U H Q I h;exact isTrue_not (ha pins s U H (λc H1=>Q (!c) H1) I h)
def zg (ta tb:TE):TE:=λU H Q=>ta U H λx H1=>∃c,x=.bl c/\if c=true then tb U H1 Q else Q (.bl false) H1
def BL (ta tb:TE):TE:=λU H Q=>ta U H λx H1=>∃c,x=.bl c/\if c=true then Q (.bl true) H1 else tb U H1 Q
def za (ta:TE):TE:=λU H Q=>ta U H λx H1=>∃c,x=.bl c/\Q (.bl (!c)) H1
theorem fZ {op} (h:PE X a t):PE X (.BoolOp op [a] pos) t:=λpins s U H Q I hw=>BoolOp_one (h pins s U H Q I hw)
theorem f_ (ha:PE X a ta) (hb:PE X (.BoolOp .And (b::rest) pos) tb):PE X (.BoolOp .And (a::b::rest) pos) (zg ta tb):=by
 intro pins s U H Q I h;refine BoolOp_and (thn (ha pins s U H _ I h) λv s1 ⟨x,H1,I1,r1,q1⟩=>?_);obtain⟨c,rfl,q1⟩:=q1;cases r1;refine wpAny_truthy_bool ?_
 cases c with
 | true=>exact hb pins s1 U H1 Q I1 q1
 | false=>exact{.bl false,H1,I1,rfl,q1}
theorem zC (ha:PE X a ta) (hb:PE X (.BoolOp .Or (b::rest) pos) tb):PE X (.BoolOp .Or (a::b::rest) pos) (BL ta tb):=by
 intro pins s U H Q I h;refine BoolOp_or (thn (ha pins s U H _ I h) λv s1 ⟨x,H1,I1,r1,q1⟩=>?_);obtain⟨c,rfl,q1⟩:=q1;cases r1;refine wpAny_truthy_bool ?_
 cases c with
 | false=>exact hb pins s1 U H1 Q I1 q1
 | true=>exact{.bl true,H1,I1,rfl,q1}
theorem rn (ha:PE X a ta):PE X (.UnaryOp .Not a pos) (za ta):=by
 intro pins s U H Q I h;refine UnaryOp_ (thn (ha pins s U H _ I h) λv s1 ⟨x,H1,I1,r1,q1⟩=>?_);obtain⟨c,rfl,q1⟩:=q1;cases r1;exact not_of (wpAny_truthy_bool {.bl (!c),H1,I1,rfl,q1})
def tIf (t:TT) (ta tb:TE):TE:=λU H Q=>t U H λc H1=>if c=true then ta U H1 Q else tb U H1 Q
theorem v7 {c:Expr} (hc:PT X c tA) (ha:PE X a ta) (hb:PE X b tb):PE X (.IfExp c a b pos) (tIf tA ta tb):=by
 intro pins s U H Q I h;refine wpAny_IfExp (thn (hc pins s U H _ I h) λd s1 ⟨H1,I1,q1⟩=>?_)
 cases d with
 | true=>exact ha pins s1 U H1 Q I1 q1
 | false=>exact hb pins s1 U H1 Q I1 q1
end
def SqL (K:PySem.W.Frag) (H:Hp) (a:Addr) (xs:List V):Prop :=
 Rd H a (.lst xs) \/
  ∃(o:Obj) (its:Array Value) (n:Nat),K.lookup a=-o/\o.cls=.type "list" /\ o.dict=none/\o.data=.seq its n/\its.size<=sizeLine/\ba xs its.toList
def SqT (K:PySem.W.Frag) (H:Hp) (a:Addr) (xs:List V):Prop :=
 Rd H a (.tup xs) \/
  ∃(o:Obj) (its:Array Value) (n:Nat),K.lookup a=-o/\o.cls=.type "tuple" /\ o.data=.seq its n/\its.size<=sizeLine/\ba xs its.toList
noncomputable def Ja:Value->Option V
 | .none=>-.non
 | .bool b=>-.bl b
 | .int i _=>-.int i
 | .str x _=>-.str x
 | .bytes b _=>-.byt b
 | .float b _=>-.flt b
 | .ref a=>-.ref a
 | .type n=>-.ty n
 | _=>none
theorem aY.abs {x:V} (r:aY x u):Ja u=-x:=by
 cases x with
 | non=>cases r;rfl
 | bl _=>cases r;rfl
 | int _=>obtain⟨t,rfl⟩:=r;rfl
 | str _=>obtain⟨t,rfl⟩:=r;rfl
 | byt _=>obtain⟨t,rfl⟩:=r;rfl
 | flt _=>obtain⟨t,rfl⟩:=r;rfl
 | ref _=>cases r;rfl
 | ty _=>cases r;rfl
theorem aY.inj {x y:V} (r:aY x u) (q:aY y u):x=y:=Q2 (r.abs.symm.trans q.abs)
theorem ba.inj:∀{xs ys:List V} {us:List Value},ba xs us->ba ys us->xs=ys
 | _,_,_,.nil,.nil=>rfl
 | _,_,_,.cons r t,.cons r' t'=>by rw[r.inj r',ba.inj t t']
section
variable {X:Cx} {pins:J5} {U:St} {H:Hp} {s:Shared} {a:Addr} {xs ys:List V}
theorem SqL.of {K:PySem.W.Frag} (h:H a=-.lst xs):SqL K H a xs:=.inl (.inl h)
theorem SqT.of {K:PySem.W.Frag} (h:H a=-.tup xs):SqT K H a xs:=.inl (.inl h)
theorem Inv.list (I:Inv X pins U H s) (h:SqL X.K H a xs):∃its:List Value,ba xs its/\PlainL s.heap a its.toArray/\xs.length<=sizeLine:=by
 rcases h with h|⟨o,its,n,hk,hc,hd,hs,hz,r⟩
 ·obtain⟨z,its,n,r,e⟩:=h.ok I.hok;exact{its,r,⟨_,n,e,rfl,rfl,rfl⟩,z}
 refine{its.toList,r,{o,n,I.kIn a o hk,hc,hd,~~~hs},?_};have e:=r.length;simp only[Qs]at e;omega
theorem Inv.tuple (I:Inv X pins U H s) (h:SqT X.K H a xs):∃its:List Value,ba xs its/\IsTup s.heap a its.toArray/\xs.length<=sizeLine:=by
 rcases h with h|⟨o,its,n,hk,hc,hs,hz,r⟩
 ·obtain⟨z,its,r,p⟩:=h.ok I.hok;exact⟨its,r,p,z⟩
 refine{its.toList,r,{o,I.kIn a o hk,hc,n,~~~hs},?_};have e:=r.length;simp only[Qs]at e;omega
theorem Inv.list_inj (I:Inv X pins U H s) (h:SqL X.K H a xs) (h':SqL X.K H a ys):xs=ys:=by
 obtain⟨its,r,⟨o,n,e,_,_,d⟩,_⟩:=I.list h;obtain⟨its',r',⟨o',n',e',_,_,d'⟩,_⟩:=I.list h';rw[e]at e';cases e';rw[d]at d';injection d' with d1 _;have:its=its':=by simpa using congrArg Array.toList d1
 subst this;exact r.inj r'
end
abbrev Cx.wish (X:Cx) (E:J0):Cx:={ X with xe:=E }
abbrev Cx.nox (X:Cx):Cx:=X.wish λ_ _=>False
theorem Cx.Ok.wish (ok:X.Ok) (E:J0):(X.wish E).Ok :=
 ⟨ok.mod,ok.kind,ok.glob,ok.blt,ok.above,ok.inj,ok.has,ok.cab,ok.hd,ok.frames,ok.stk,ok.exf,ok.bs,ok.bsz,ok.noex,ok.exfs,ok.funs,ok.frf⟩
theorem Cx.Ok.unwish (ok:(X.wish E).Ok):X.Ok :=
 ⟨ok.mod,ok.kind,ok.glob,ok.blt,ok.above,ok.inj,ok.has,ok.cab,ok.hd,ok.frames,ok.stk,ok.exf,ok.bs,ok.bsz,ok.noex,ok.exfs,ok.funs,ok.frf⟩
section
variable {X:Cx} {pins:J5} {U:St} {H:Hp} {s:Shared} {E:J0}
theorem Inv.wish (I:Inv X pins U H s) (E:J0):Inv (X.wish E) pins U H s:={I.ok.wish E,I.os,I.bare,I.base,I.loc,I.cell,I.free,I.freeC,I.pin,I.hok,I.len}
theorem Inv.unwish (I:Inv (X.wish E) pins U H s):Inv X pins U H s:=⟨I.ok.unwish,I.os,I.bare,I.base,I.loc,I.cell,I.free,I.freeC,I.pin,I.hok,I.len⟩
theorem SP.unwish {D:Ends} {f:Flow} {s':Shared} (h:SP (X.wish E) pins D f s'):SP X pins D f s':=by
 cases f with
 | next=>obtain⟨σ',H',I,q⟩:=h;exact⟨σ',H',I.unwish,q⟩
 | brk=>obtain⟨σ',H',I,q⟩:=h;exact⟨σ',H',I.unwish,q⟩
 | cont=>obtain⟨σ',H',I,q⟩:=h;exact⟨σ',H',I.unwish,q⟩
 | ret u=>obtain⟨v,σ',H',I,r,q⟩:=h;exact⟨v,σ',H',I.unwish,r,q⟩
theorem PSs.nox {st:List Stmt} {t:TS} (h:PSs X.nox st t):PSs X st t:=λpins s U H D I hw =>
 Xr (h pins s U H D (I.wish _) hw) (λ_ _ q=>q.unwish) λ_ _ z=>False.elim z
end
section
variable {X:Cx} {st:Stmt} {rest:List Stmt} {t u:TS} {e:Expr} {te:TE} {pos:Pos}
def zb:TS:=λD U H=>D.nx U H
def xQ (t u:TS):TS:=λD U H=>t { D with nx:=u D } U H
theorem pss_nil:PSs X [] zb:=λ_ _ U H _ I h=>wpAny_execs_nil ⟨U,H,I,h⟩
theorem pss_cons (h1:PS X st t) (h2:PSs X rest u):PSs X (st::rest) (xQ t u):=by
 intro pins s U H D I h;refine wpAny_execs_cons (thn (h1 pins s U H { D with nx:=u D } I h) λf s1 q=>?_)
 cases f with
 | next =>
  obtain⟨σ',H',I',q⟩:=q;exact h2 pins s1 σ' H' D I' q
 | ret v=>exact q
 | brk=>exact q
 | cont=>exact q
theorem a7 (h1:PS X st t):PSs X [st] t:=by
 intro pins s U H D I h;refine wpAny_execs_cons (thn (h1 pins s U H D I h) λf s1 q=>?_)
 cases f with
 | next=>exact wpAny_execs_nil q
 | ret v=>exact q
 | brk=>exact q
 | cont=>exact q
theorem Inv.quiet {pins:J5} {U:St} {H:Hp} {s:Shared} (I:Inv X pins U H s):interactive X.env=false:=by simp[interactive,I.ok.kind]
def zd (te:TE):TS:=λD U H=>te U H λ_ H1=>D.nx U H1
theorem bJ (he:PE X e te) (hs:swapsWith e none pos.line X.env=pure false:=by rfl):PS X (.Expr e pos) (zd te):=by
 intro pins s U H D I h;exact wpAny_Expr_any (thn (he pins s U H _ I h) λv s1 ⟨x,H1,I1,r1,q1⟩=>⟨U,H1,I1,q1⟩) I.quiet hs
def BK (te:TE):TS:=λD U H=>te U H D.rt
theorem aJ (he:PE X e te):PS X (.Return (-e) pos) (BK te):=by
 intro pins s U H D I h;exact wpAny_Return_some (thn (he pins s U H _ I h) λv s1 ⟨x,H1,I1,r1,q1⟩=>⟨x,U,H1,I1,r1,q1⟩)
def BP (c:TT) (t u:TS):TS:=λD U H=>c U H λb H1=>if b=true then t D U H1 else u D U H1
theorem ps_if {c:Expr} {a b:List Stmt} {tc:TT} (hc:PT X c tc) (ha:PSs X a t) (hb:PSs X b u):PS X (.If c a b pos) (BP tc t u):=by
 intro pins s U H D I h;refine wpAny_If (thn (hc pins s U H _ I h) λd s1 ⟨H1,I1,q1⟩=>?_)
 cases d with
 | true=>exact ha pins s1 U H1 D I1 q1
 | false=>exact hb pins s1 U H1 D I1 q1
def AA:TS:=λ_ _ _=>False
theorem uv {sts:List Stmt}:PSs X sts AA:=λ_ _ _ _ _ _ h=>h.elim
end
abbrev TG:=V->St->Hp->(St->Hp->Prop)->Prop
abbrev TGs:=List V->St->Hp->(St->Hp->Prop)->Prop
def PG (X:Cx) (target:Expr) (t:TG):Prop :=
 ∀(pins:J5) (s:Shared) (U:St) (H:Hp) (v:V) (u:Value) (Q:St->Hp->Prop),Inv X pins U H s->aY v u->t v U H Q ->
  wpAny (model X.prog X.w) X.A (assign target X.env u) (λ_ s'=>∃σ' H',Inv X pins σ' H' s'/\Q σ' H') X.xe s
def PGs (X:Cx) (ts:List Expr) (t:TGs):Prop :=
 ∀(pins:J5) (s:Shared) (U:St) (H:Hp) (vs:List V) (us:List Value) (Q:St->Hp->Prop),Inv X pins U H s->ba vs us->t vs U H Q ->
  wpAny (model X.prog X.w) X.A (assignInOrder ((assignEach ts X.env).map (·.2)) us) (λ_ s'=>∃σ' H',Inv X pins σ' H' s'/\Q σ' H') X.xe s
abbrev yU:=V->V->V->Hp->(Hp->Prop)->Prop
def Gj (X:Cx) (t:yU):Prop :=
 ∀(pins:J5) (s:Shared) (U:St) (H:Hp) (o i v:V) (ov iv u:Value) (Q:Hp->Prop),Inv X pins U H s->aY o ov->aY i iv->aY v u->t o i v H Q ->
  wpAny (model X.prog X.w) X.A (setItem ov iv u) (λ_ s'=>∃H',Inv X pins U H' s'/\Q H') X.xe s
abbrev TIp:=V->V->Hp->VK->Prop
def PIp (X:Cx) (op:Operator) (t:TIp):Prop :=
 ∀(pins:J5) (s:Shared) (U:St) (H:Hp) (x y:V) (v u:Value) (Q:VK),Inv X pins U H s->aY x v->aY y u->t x y H Q ->
  wpAny (model X.prog X.w) X.A (inplaceOp op v u) (EP X pins U Q) X.xe s
section
variable {X:Cx} {pos:Pos}
def eU (i:Nat):TG:=λv U H Q=>Q (U.set i (-v)) H
variable {x:Str}
theorem dh {i:Nat} (hN:X.N.Nodup) (hi:X.N[i]?=-x) (hx:Loc X.env.scope x) (hf:X.fn x=true\/X.env.scope.names.lookup x=-.local:=by z_go):PG X (.Name x pos) (eU i):=by
 intro pins s U H v u Q I r h;exact wpAny_assign_Name (jO I hN hi hx r (λs' I'=>⟨_,H,I',h⟩) hf)
theorem bR (i:Nat) (hN:X.N.Nodup) (hi:X.N[i]?=-x:=by rfl) (hx:Loc X.env.scope x:=by z_go) (hf:X.fn x=true\/X.env.scope.names.lookup x=-.local:=by z_go):PG X (.Name x pos) (eU i):=dh hN hi hx hf
def Gb:TGs:=λvs U H Q=>vs=[]/\Q U H
def xc (t:TG) (u:TGs):TGs:=λvs U H Q=>∃v r,vs=v::r/\t v U H λσ' H'=>u r σ' H' Q
theorem ee:PGs X [] Gb:=by
 intro pins s U H vs us Q I r h;obtain⟨e,h⟩:=h;subst e;cases r;exact assignInOrder_nil ⟨U,H,I,h⟩
variable {e o i tg:Expr}
theorem bE {es:List Expr} {t:TG} {u:TGs} (h1:PG X e t) (h2:PGs X es u)
  (hs:(assignEach (e::es) X.env).map (·.2)=assign e X.env::(assignEach es X.env).map (·.2):=by rfl):PGs X (e::es) (xc t u):=by
 intro pins s U H vs us Q I r h;obtain⟨v,vr,e1,h⟩:=h;subst e1
 cases r with
 | cons r rr =>
 rw[hs];refine assignInOrder_cons (thn (h1 pins s U H _ _ _ I r h) λ_ s1 ⟨σ1,H1,I1,q1⟩=>?_);exact h2 pins s1 σ1 H1 _ _ Q I1 rr q1
def By (K:PySem.W.Frag) (n:Nat) (t:TGs):TG:=λv U H Q=>∃a xs,v=.ref a/\SqT K H a xs/\xs.length=n/\t xs U H Q
theorem gY {es:List Expr} {k:Nat} {t:TGs} {n:Nat} (hc:X.calm=true) (h:PGs X es t)
  (hn:(assignEach es X.env).length=n:=by rfl) (hst:(assignEach es X.env).findIdx? (·.1)=none:=by rfl):PG X (.Tuple es k pos) (By X.K n t):=by
 intro pins s U H v u Q I r hw;obtain⟨a,xs,e1,hq,hl,hw⟩:=hw;subst e1;cases r;obtain⟨its,rv,ht,hz⟩:=I.tuple hq;refine assign_Tuple_tuple (I.ok.hd hc) ht (by simp[hn,<-hl,rv.length]) hst λh' hx=>?_;have I1:Inv X pins U H { s with heap:=h' }:=I.kept (t':=s.toks) λb o e=>hx b o (Qz (Qm e)) e;exact h pins _ U H xs _ Q I1 (~~~rv) hw
def Ga (to ti:TE) (t:yU):TG:=λv U H Q=>to U H λo H1=>ti U H1 λi H2=>t o i v H2 λH3=>Q U H3
theorem v5 {to ti:TE} {t:yU} (ho:PE X o to) (hi:PE X i ti) (hs:Gj X t)
  (ha:∀v,assign (.Subscript o i pos) X.env v=(do
   let ov <-holding [v] (eval o X.env);let iv <-holding [v,ov] (eval i X.env)
   standAt pos
   holding [v,ov,iv] (setItem ov iv v)
   release [v,ov,iv] []):=by intro _;rfl):PG X (.Subscript o i pos) (Ga to ti t):=by
 intro pins s U H v u Q I r h;rw[ha];refine Qb (Q3 (thn (ho pins s U H _ I h) λov s1 ⟨x,H1,I1,r1,q1⟩=>?_));refine Qb (Q3 (thn (hi pins s1 U H1 _ I1 q1) λiv s2 ⟨y,H2,I2,r2,q2⟩=>?_));refine Qb (wpAny_standAt (Qb (Q3 (thn (hs pins s2 U H2 x y v ov iv u _ I2 r1 r2 r q2) λ_ s3 ⟨H3,I3,q3⟩=>?_))));exact wpAny_release ⟨U,H3,I3,q3⟩
def uh (te:TE) (g:TG):TS:=λD U H=>te U H λx H1=>g x U H1 D.nx
variable {te:TE}
theorem rl {g:TG} (he:PE X e te) (hg:PG X tg g) (hs:swapsWithSole [tg] e pos.line X.env=pure false:=by rfl) (hw:swappedStores [tg] e X.env=pure none:=by rfl)
  (h1:(assignEach [tg] X.env).map (·.2)=[assign tg X.env]:=by rfl):PS X (.Assign [tg] e pos) (uh te g):=by
 intro pins s U H D I h;refine wpAny_Assign_stores (thn (he pins s U H _ I h) λv s1 ⟨x,H1,I1,r1,q1⟩=>?_) hs hw;rw[h1];exact thn (hg pins s1 U H1 x v _ I1 r1 q1) λ_ s2 q=>q
variable {pos':Pos}
theorem vW {i:Nat} (hN:X.N.Nodup) (hi:X.N[i]?=-x) (hx:Loc X.env.scope x) (he:PE X e te) (hs:swapsWith e (-.Name x pos') pos.line X.env=pure false:=by rfl) (hf:X.fn x=true\/X.env.scope.names.lookup x=-.local:=by z_go) :
  PS X (.Assign [.Name x pos'] e pos) (uh te (eU i)):=by
 intro pins s U H D I h;refine wpAny_Assign_Name (thn (he pins s U H _ I h) λv s1 ⟨y,H1,I1,r1,q1⟩=>?_) hs;exact jO I1 hN hi hx r1 (λs2 I2=>⟨_,H1,I2,q1⟩) hf
theorem aF (i:Nat) (hN:X.N.Nodup) (he:PE X e te) (hi:X.N[i]?=-x:=by rfl) (hx:Loc X.env.scope x:=by z_go) (hs:swapsWith e (-.Name x pos') pos.line X.env=pure false:=by rfl) (hf:X.fn x=true\/X.env.scope.names.lookup x=-.local:=by z_go):PS X (.Assign [.Name x pos'] e pos) (uh te (eU i)):=vW hN hi hx he hs hf
def Gq (i:Nat) (te:TE) (ti:TIp):TS:=λD U H=>∃x,U[i]?=- -x/\te U H λy H1=>ti x y H1 λz H2=>D.nx (U.set i (-z)) H2
theorem vX {i:Nat} {op:Operator} {ti:TIp} (hN:X.N.Nodup) (hi:X.N[i]?=-x) (hx:Loc X.env.scope x) (he:PE X e te) (ho:PIp X op ti) (hf:X.fn x=true\/X.env.scope.names.lookup x=-.local:=by z_go) :
  PS X (.AugAssign (.Name x pos') op e pos) (Gq i te ti):=by
 intro pins s U H D I h;obtain⟨v,e1,h⟩:=h;obtain⟨m,hn,hl⟩:=I.loc;have vis:Vis X.env.scope x:=by rcases hx with k|k;exact .inl k;exact .inr (.inl k)
 obtain⟨u,r,l⟩:=hl i x v hi e1 vis;refine wpAny_AugAssign_Name ?_
 have go:wpAny (model X.prog X.w) X.A (eval e X.env) (λw s₂=>wpAny (model X.prog X.w) X.A (inplaceOp op u w) (λr s₃=>wpAny (model X.prog X.w) X.A (storeName X.env x r) (λ_=>SP X pins D .next) X.xe s₃) X.xe s₂) X.xe s:=by
  refine thn (he pins s U H _ I h) λw s1 ⟨y,H1,I1,r1,q1⟩=>?_;refine thn (ho pins s1 U H1 v y u w _ I1 r r1 q1) λz s2 ⟨zv,H2,I2,r2,q2⟩=>?_;exact jO I2 hN hi hx r2 (λs3 I3=>⟨_,H2,I3,q2⟩) hf
 rcases l with⟨hk,hm⟩|⟨hk,c,hc,hcell⟩
 ·exact wpAny_loadName_local I.ok.kind hk hn hm go
 rcases hk with hk|hk
 ·exact wpAny_loadName_cell I.ok.kind hk hc hcell go
 rcases hx with k|k
 ·have:X.env.scope.names.lookup x=-.free:=hk;rw[k]at this;cases this
 have:X.env.scope.names.lookup x=-.free:=hk;rw[k]at this;cases this
def ipI (f:Int->Int->Int):TIp:=λx y H Q=>∃i j,x=.int i/\y=.int j/\Q (.int (f i j)) H
theorem wY:PIp X .Add (ipI λi j=>i+j):=by
 intro pins s U H x y v u Q I r1 r2 h;obtain⟨i,j,e1,e2,q⟩:=h;subst e1;subst e2;obtain⟨t,rfl⟩:=r1;obtain⟨t',rfl⟩:=r2;exact iadd_int {.int _,H,I.tok _,⟨_,rfl⟩,q}
end
section
variable {X:Cx} {pos:Pos}
def Az (c:TT) (tb:TS):TS:=λD U H=>∃W:Nat->St->Hp->Prop,(∃m,W m U H)/\∀m U H,W m U H ->
 c U H λb H1=>if b=true then ∃N:St->Hp->Prop,(∀σ' H',N σ' H'->∃m',m'<m/\W m' σ' H')/\tb { D with nx:=N,ct:=N,bk:=D.nx } U H1 else D.nx U H1
theorem fX {c:Expr} {body:List Stmt} {tc:TT} {tb:TS} (hp:PassesOwn (model X.prog X.w) X.A X.env X.xe) (hc:PT X c tc) (hb:PSs X body tb):PS X (.While c body [] pos) (Az tc tb):=by
 intro pins s U H D I h;obtain⟨W,⟨m0,w0⟩,turn⟩:=h;refine wpAny_While (codeAny_whileLoop (λn s'=>∃σ' H',Inv X pins σ' H' s'/\W n σ' H') ?_ m0 ⟨U,H,I,w0⟩);rintro n s1 ⟨σ1,H1,I1,w1⟩;refine wpAny_passesOwn hp (thn (hc pins s1 σ1 H1 _ I1 (turn n σ1 H1 w1)) λb s2 ⟨H2,I2,q2⟩=>?_)
 cases b with
 | true =>
  obtain⟨N,hN,q2⟩:=q2;rw[QF rfl];refine wpAny_passesOwn hp (thn (hb pins s2 σ1 H2 _ I2 q2) λf s3 q3=>?_)
  cases f with
  | next =>
   obtain⟨σ3,H3,I3,n3⟩:=q3;obtain⟨m',hm,w3⟩:=hN σ3 H3 n3;exact⟨m',hm,σ3,H3,I3,w3⟩
  | cont =>
   obtain⟨σ3,H3,I3,n3⟩:=q3;obtain⟨m',hm,w3⟩:=hN σ3 H3 n3;exact⟨m',hm,σ3,H3,I3,w3⟩
  | brk=>exact q3
  | ret v=>exact q3
 | false =>
 rw[QE Qn];exact wpAny_execs_nil ⟨σ1,H2,I2,q2⟩
end
structure It where
 go:Nat->Hp->Prop
 yld:Nat->Hp->V->Hp->Prop
 stop:Nat->Hp->Prop
def ie (X:Cx) (pins:J5) (H:Hp) (b:Addr):Prop :=
 H b=none/\b≠X.env.locals/\b∉X.fs/\(b∈X.ex\/X.s₀.heap.objs.size<=b)/\(∀x c,X.env.cells.lookup x=-c->c≠b)/\∀p∈X.pn++pins,p.1≠b
theorem Inv.fpOk {pins:J5} {U:St} (I:Inv X pins U H s) (hb:s.heap.objs.size<=b) (hn:H' b=none):ie X pins H' b:=by
 refine{hn,XG (QG I.lt hb),I.nofs hb,.inr (QY I.sz hb),λx c e z=>?_,λp hp z=>?_}
 ·obtain⟨v,q⟩:=I.cell x c e;exact absurd (QG q.lt (by rw[z];exact hb)) (Nat.lt_irrefl _)
 exact absurd (QG (Qm (I.pin p hp).1) (by rw[z];exact hb)) (Nat.lt_irrefl _)
structure Turn (P:Program) (w:World) (K:PySem.W.Frag) (tg:Expr) (J:It) (fp:J7) (it:Addr) (tn:Nat->Heap->Prop):Prop where
 mem:it∈fp
 obj:∀i h,tn i h->∀b∈fp,∃o,h.get? b=-o/\∀v,o.data≠.cell v
 keep:∀i h h',tn i h->(∀b∈fp,∀o,h.get? b=-o->h'.get? b=-o)->tn i h'
 item:∀(X:Cx),X.prog=P->X.w=w->X.K=K->X.calm=true->∀(i:Nat) (pins:J5) (s:Shared) (U:St) (H:Hp) (E:J0),Inv X pins U H s->(∀b∈fp,ie X pins H b)->tn i s.heap->J.go i H ->
  wpAny (model P w) X.A (pyNext (.ref it)) (λr s1=>∃u,r=some u /\
   wpAny (model P w) X.A (letOwnedTupleGo tg (.ref it) u) (λ_ s2=>∃x H',Inv X pins U H' s2/\aY x u/\J.yld i H x H'/\tn (i+1) s2.heap/\∀b∈fp,H' b=none) E s1) E s
 done:∀(X:Cx),X.prog=P->X.w=w->X.K=K->X.calm=true->∀(i:Nat) (pins:J5) (s:Shared) (U:St) (H:Hp) (E:J0),Inv X pins U H s->(∀b∈fp,ie X pins H b)->tn i s.heap->J.stop i H ->
  wpAny (model P w) X.A (pyNext (.ref it)) (λr s1=>r=none/\Inv X pins U H s1) E s
 self:∀(A:Around) (i:Nat) (s:Shared) (Q:J0) (E:J0),tn i s.heap->Q (.ref it) s->wpAny (model P w) A (pyIter (.ref it)) Q E s
abbrev TI:=St->Hp->(It->Hp->Prop)->Prop
def PIE (X:Cx) (pins:J5) (U:St) (tg:Expr) (R:It->Hp->Prop) (itv:Value) (s2:Shared):Prop :=
 ∃(it:Addr) (fp:J7) (tn:Nat->Heap->Prop) (J:It) (H':Hp),itv=.ref it/\Inv X pins U H' s2/\Turn X.prog X.w X.K tg J fp it tn/\tn 0 s2.heap/\(∀b∈fp,ie X pins H' b)/\R J H'
def PI (X:Cx) (tg iter:Expr) (wi:TI):Prop :=
 ∀(pins:J5) (s:Shared) (U:St) (H:Hp) (R:It->Hp->Prop),Inv X pins U H s->wi U H R ->
  wpAny (model X.prog X.w) X.A (eval iter X.env) (λv s1=>wpAny (model X.prog X.w) X.A (pyIter v) (PIE X pins U tg R) X.xe s1) X.xe s
theorem xa {M:Model} {s:Shared} {o:Obj} {n:String} {vs:Array Value} {Q:Unit->Shared->Prop} (ho:s.heap.get? it=-o) (hc:o.cls=.type n) (hd:o.data=.fields vs)
  (hn:["enumerate", "zip", "dict_itemiterator", "dict_reverseitemiterator", "odict_iterator", "itertools.zip_longest", "itertools.pairwise"].contains n=false) (hQ:Q () s):wpAny M A (letOwnedTupleGo tg (.ref it) u) Q E s:=by
 unfold letOwnedTupleGo
 cases tg <;> first
  | exact Qf hQ
  | (cases u <;> first
    | exact Qf hQ
    |(refine Qb (wpAny_load ho ?_)
      rw[hc,hd];show wpAny M A (if (["enumerate", "zip", "dict_itemiterator", "dict_reverseitemiterator", "odict_iterator", "itertools.zip_longest", "itertools.pairwise"].contains n&&vs[0]?==-rawInt _)=true then _ else _) Q E s;rw[QE (by intro h;rw[hn,Bool.false_and]at h;cases h)]
      exact Qf hQ))
def Itl (K:PySem.W.Frag) (a:Addr):It :=
 {λi H=>∃xs x,SqL K H a xs/\xs[i]?=-x,λi H x H'=>H'=H/\∀xs,SqL K H a xs->xs[i]?=-x,λi H=>∃xs,SqL K H a xs/\xs.length<=i}
def Itr (lo:Int) (n:Nat):It:={λi _=>i<n,λi H x H'=>H'=H/\x=.int (lo+i),λi _=>n<=i}
variable {K:PySem.W.Frag}
theorem turn_list (a it:Addr):Turn P w K tg (Itl K a) [it] it (λi h=>h.IsListIter it a i) where
 mem:=by simp
 obj:=λi h st b hb=>by
  have e:b=it:=by simpa using hb
  subst e;obtain⟨o,e,c,d⟩:=st;exact{o,e,λv z=>by rw[d]at z;cases z}
 keep:=λi h h' st k=>st.at λo e=>k it (by simp) o e
 item:=by
  intro X hP hw hK hc i pins s U H E I hf st hg;subst hP hw hK;obtain⟨xs,x,hq,hx⟩:=hg;obtain⟨its,rv,p,hz⟩:=I.list hq;obtain⟨u,hu,ru⟩:=rv.get hx;obtain⟨f0,f1,f2,f3,f4,f5⟩:=hf it (by simp);refine wpAny_pyNext_list_item st p.isList (x:=u) (~~~hu) λh' st' sb=>?_;have I1:Inv X pins U H { s with heap:=h' }:=I.turned (t':=s.toks) (λb o hb e=>(sb.2 b hb).trans e) f0 f1 f3 f4 f5;obtain⟨o,e,c,d⟩:=id st';exact{u,rfl,xa (s:={ s with heap:=h' }) e c d (by decide) {x,H,I1,ru,{rfl,λys hy=>by rw[I.list_inj hy hq];exact hx},st',λb hb=>(hf b hb).1} }
 done:=by
  intro X hP hw hK hc i pins s U H E I hf st hg;subst hP hw hK;obtain⟨xs,hq,hx⟩:=hg;obtain⟨its,rv,p,hz⟩:=I.list hq;obtain⟨f0,f1,f2,f3,f4,f5⟩:=hf it (by simp);have hl:=rv.length;exact wpAny_pyNext_list_end (I.ok.hd hc) st p.isList (by simp;omega) λh' eb=>{rfl,I.turned (t':=s.toks) (λb o hb e=>eb b o hb e) f0 f1 f3 f4 f5}
 self:=λ_ _ _ _ _ st h=>wpAny_pyIter_listiter st h
theorem qV (it:Addr) (lo:Int) (n:Nat):Turn P w K tg (Itr lo n) [it] it (λi h=>IsRangeIter h it (lo+(i:Nat)*1) ((n:Int)-(i:Nat)) 1) where
 mem:=by simp
 obj:=λi h st b hb=>by
  have e:b=it:=by simpa using hb
  subst e
  exact{_,st,λv z=>by
   have z':Data.fields _=Data.cell v:=z
   cases z'}
 keep:=λi h h' st k=>k it (by simp) _ st
 item:=by
  intro X hP hw hK hc i pins s U H E I hf st hg;subst hP hw hK;obtain⟨f0,f1,f2,f3,f4,f5⟩:=hf it (by simp);have W:=Walks.range (prog:=X.prog) (w:=X.w) (I.ok.hd hc) it lo 1 n;refine W.item i s _ _ hg st λv h' tk hv st' kk=>?_;obtain⟨t,rfl⟩:=hv;have I1:Inv X pins U H { s with heap:=h',toks:=tk }:=I.turned (λb o hb e=>kk b o (~~~hb) e) f0 f1 f3 f4 f5;refine{_,rfl,xa (s:={ s with heap:=h',toks:=tk }) (n := "range_iterator") st' rfl rfl (by decide) {.int (lo+i),H,I1,{t,?_},⟨rfl,rfl⟩,st',λb hb=>(hf b hb).1} };rw[Int.mul_one]
 done:=by
  intro X hP hw hK hc i pins s U H E I hf st hg;subst hP hw hK;obtain⟨f0,f1,f2,f3,f4,f5⟩:=hf it (by simp);exact wpAny_pyNext_range_end (I.ok.hd hc) st (by have:n<=i:=hg;omega) λh' eb=>{rfl,I.turned (t':=s.toks) (λb o hb e=>eb b o hb e) f0 f1 f3 f4 f5}
 self:=λ_ _ _ _ _ st h=>wpAny_pyIter_rangeiter st h
section
variable {X:Cx} {tg:Expr}
def mP (K:PySem.W.Frag) (tl:TE):TI:=λU H R=>tl U H λx H1=>∃a,x=.ref a/\(∃xs,SqL K H1 a xs)/\R (Itl K a) H1
variable {l a iter:Expr}
theorem bw {tl:TE} (hl:PE X l tl):PI X tg l (mP X.K tl):=by
 intro pins s U H R I h;refine thn (hl pins s U H _ I h) λv s1 ⟨x,H1,I1,r1,q1⟩=>?_;obtain⟨a,e,⟨xs,hq⟩,q⟩:=q1;subst e;cases r1;obtain⟨its,rv,p,hz⟩:=I1.list hq;refine wpAny_pyIter_list p.isList ?_;refine{s1.heap.objs.size,[s1.heap.objs.size],_,_,H1,rfl,I1.kept (t':=s1.toks) λb o e=>Qd _ e,turn_list a _,{_,Qr _ rfl,rfl,rfl},λb hb=>?_,q};have e:b=s1.heap.objs.size:=by simpa using hb
 subst e;exact I1.fpOk (Qh _) (I1.hok.fresh (Qh _))
variable {s:Shared} {pins pl:J5}
theorem pU {U:St} {H:Hp} {R:It->Hp->Prop} {E:J0} {lo hi:Int} {t u v:Tok} {tk:Nat} (I:Inv X pins U H s) (h1:(unop% Neg.neg (2 ^ 62))<=lo) (h2:lo<2 ^ 62) (h3:(unop% Neg.neg (2 ^ 62))<=hi) (h4:hi<2 ^ 62)
  (q:R (Itr lo (hi-lo).toNat) H):wpAny (model X.prog X.w) X.A (pyIter (.ref s.heap.objs.size)) (PIE X pins U tg R) E { s with heap:=s.heap.push { cls:=.type "range", data:=.fields #[.int lo t,.int hi u,.int 1 v] },toks:=tk }:=by
 refine wpAny_pyIter_range (IsRange.new ..) (small_one h1 h2 h3 h4) ?_;have I1:Inv X pins U H { s with heap:=s.heap.push { cls:=.type "range", data:=.fields #[.int lo t,.int hi u,.int 1 v] },toks:=tk }:=I.kept λb o e=>Qd _ e
 refine{(s.heap.push { cls:=.type "range", data:=.fields #[.int lo t,.int hi u,.int 1 v] }).objs.size,[(s.heap.push { cls:=.type "range", data:=.fields #[.int lo t,.int hi u,.int 1 v] }).objs.size],_,_,H,rfl,
  I1.kept (t':=tk) λb o e=>Qd _ e,qV _ lo (hi-lo).toNat,?_,λb hb=>?_,q}
 ·have e1:lo+((0:Nat):Int)*1=lo:=by simp
  have e2:(((hi-lo).toNat:Nat):Int)-((0:Nat):Int)=Builtin.Range.rangeSize lo hi 1:=by rw[rangeSize_one];split <;> omega
  show IsRangeIter _ _ (lo+((0:Nat):Int)*1) ((((hi-lo).toNat:Nat):Int)-((0:Nat):Int)) 1;rw[e1,e2];exact Qr _ rfl
 have e:b=(s.heap.push { cls:=.type "range", data:=.fields #[.int lo t,.int hi u,.int 1 v] }).objs.size:=by simpa using hb
 subst e;exact I1.fpOk (Qh _) (I1.hok.fresh (Qh _))
def As (ta:TA):TI:=λU H R=>ta U H λvs H1=>∃j:Int,vs=[.int j]/\(unop% Neg.neg (2 ^ 62))<=j/\j<2 ^ 62/\R (Itr 0 j.toNat) H1
def F9 (ta:TA):TI:=λU H R=>ta U H λvs H1=>∃i j:Int,vs=[.int i,.int j]/\((unop% Neg.neg (2 ^ 62))<=i/\i<2 ^ 62/\(unop% Neg.neg (2 ^ 62))<=j/\j<2 ^ 62)/\R (Itr i (j-i).toNat) H1
theorem cA {ta:TA} {p pos:Pos} (hg:Gl X "range") (hm:X.mg "range" = none) (ha:PA X [a] ta) (hs:starEach [a] X.env=[(false,eval a X.env)]:=by rfl):PI X tg (.Call (.Name "range" p) [a] [] pos) (As ta):=by
 intro pins s U H R I h;refine Call_ (d7 I hg hm boot_range (Xf (thn (ha pos pins s U H _ I h) λus s1 ⟨vs,H1,I1,r1,q1⟩=>?_) hs rfl));obtain⟨j,e,q1,q2,q⟩:=q1;subst e
 cases r1 with
 | cons r rr =>
 cases rr;obtain⟨t,rfl⟩:=r;exact call_range_1 (pU I1 ⋯ ⋯ q1 q2 (~~~q))
theorem ux {b:Expr} {ta:TA} {p pos:Pos} (hg:Gl X "range") (hm:X.mg "range" = none) (ha:PA X [a,b] ta) (hs:starEach [a,b] X.env=[(false,eval a X.env),(false,eval b X.env)]:=by rfl) (hs2:starEach [b] X.env=[(false,eval b X.env)]:=by rfl) :
  PI X tg (.Call (.Name "range" p) [a,b] [] pos) (F9 ta):=by
 intro pins s U H R I h;refine Call_ (d7 I hg hm boot_range (Xf (thn (ha pos pins s U H _ I h) λus s1 ⟨vs,H1,I1,r1,q1⟩=>?_) (by rw[hs,hs2]) (by rw[hs2];rfl)));obtain⟨i,j,e,⟨q1,q2,q3,q4⟩,q⟩:=q1;subst e
 cases r1 with
 | cons r rr =>
 cases rr with
 | cons r' rr =>
 cases rr;obtain⟨t,rfl⟩:=r;obtain⟨t',rfl⟩:=r';exact call_range_2 (pU I1 q1 q2 q3 q4 q)
def BR (wi:TI) (g:TG) (tb:TS):TS:=λD U H=>wi U H λJ H1=>∃W:Nat->Nat->St->Hp->Prop,(∃m,W 0 m U H1)/\∀i m U H,W i m U H ->
 (J.stop i H/\D.nx U H)\/(J.go i H/\∃N:St->Hp->Prop,(∀σ' H',N σ' H'->∃m',m'<m/\W (i+1) m' σ' H')/\∀x H',J.yld i H x H'->g x U H' λσ2 H2=>tb { D with nx:=N,ct:=N,bk:=D.nx } σ2 H2)
def iM (fp:J7) (h:Heap):J5:=fp.filterMap λb=>(h.get? b).map λo=>(b,o)
variable {fp:J7}
theorem dM {h:Heap} {b:Addr} {o:Obj} (hb:b∈fp) (e:h.get? b=-o):(b,o)∈iM fp h:=List.mem_filterMap.mpr {b,hb,by rw[e];rfl}
theorem uO {h:Heap} {p:Addr × Obj} (hp:p∈iM fp h):p.1∈fp/\h.get? p.1=-p.2:=by
 obtain⟨b,hb,e⟩:=List.mem_filterMap.mp hp
 cases q:h.get? b with
 | none=>rw[q]at e;cases e
 | some o =>
 rw[q]at e;have e':(b,o)=p:=Q2 e;subst e';exact⟨hb,q⟩
theorem Inv.pinned {U:St} {H:Hp} (I:Inv X pins U H s) (hf:∀b∈fp,ie X pins H b) (ho:∀b∈fp,∃o,s.heap.get? b=-o/\∀v,o.data≠.cell v):Inv X (pins++iM fp s.heap) U H s :=
 I.pins_of λp hp=>(Qq.mp hp).elim (λz=>I.pin p (QV _ z)) λz=>by
  obtain⟨hb,e⟩:=uO z;obtain⟨f0,f1,f2,_⟩:=hf p.1 hb;obtain⟨o,e',d⟩:=ho p.1 hb;rw[e]at e';cases e';exact⟨e,f0,f1,f2,d⟩
theorem Inv.unpinned {U:St} {H:Hp} (I:Inv X (pins++pl) U H s):Inv X pins U H s:=I.pins_of λp hp=>I.pin p (QV _ (XX _ hp))
theorem ps_for {body:List Stmt} {wi:TI} {g:TG} {tb:TS} {pos:Pos} (hp:PassesOwn (model X.prog X.w) X.A X.env X.xe) (hc:X.calm=true) (hi:PI X tg iter wi) (hg:PG X tg g) (hb:PSs X body tb)
  (hs:∀x,foldedSetIterable iter X.env x=pure x:=by intro _;rfl):PS X (.For tg iter body [] pos) (BR wi g tb):=by
 intro pins s U H D I h;refine wpAny_For (thn (hi pins s U H _ I h) λv s1 h1=>thn h1 λitv s2 h2=>?_) hs;obtain⟨it,fp,tn,J,H2,e,I2,T,st2,f2,W,⟨m0,w0⟩,turn⟩:=h2;subst e
 have stat:∀{H':Hp},(∀b∈fp,H' b=none)->∀b∈fp,ie X pins H' b:=λhn b hb=>{hn b hb,(f2 b hb).2};refine codeAny_forLoop_any (λn s'=>∃i σ' H',Inv X pins σ' H' s'/\tn i s'.heap/\(∀b∈fp,H' b=none)/\W i n σ' H') ?_ m0 {0,U,H2,I2,st2,λb hb=>(f2 b hb).1,w0};rintro n s3 ⟨i,σ3,H3,I3,st3,fr3,w3⟩;rcases turn i n σ3 H3 w3 with⟨stop,qn⟩|⟨go,N,hN,step⟩
 ·refine wpAny_passesOwn hp (thn (T.done X rfl rfl rfl hc i pins s3 σ3 H3 X.xe I3 (stat fr3) st3 stop) λr s4 ⟨hr,I4⟩=>?_);subst hr;exact wpAny_execs_nil ⟨σ3,H3,I4,qn⟩
 refine wpAny_passesOwn hp (thn (T.item X rfl rfl rfl hc i pins s3 σ3 H3 X.xe I3 (stat fr3) st3 go) λr s4 ⟨u,hr,h4⟩=>?_);subst hr;refine wpAny_passesOwn hp (thn h4 λ_ s5 ⟨x,H5,I5,r5,y5,st5,fr5⟩=>?_);have I5':=I5.pinned (stat fr5) (T.obj _ _ st5);refine wpAny_passesOwn hp (thn (hg _ s5 σ3 H5 x u _ I5' r5 (step x H5 y5)) λ_ s6 ⟨σ6,H6,I6,q6⟩=>?_);refine wpAny_passesOwn hp (thn (hb _ s6 σ6 H6 _ I6 q6) λf s7 q7=>?_)
 have again:∀{σ7:St} {H7:Hp},Inv X (pins++iM fp s5.heap) σ7 H7 s7->N σ7 H7->∃m,m<n/\∃i σ' H',Inv X pins σ' H' s7/\tn i s7.heap/\(∀b∈fp,H' b=none)/\W i m σ' H':=λ{σ7 H7} I7 n7=>by
  obtain⟨m',hm,w7⟩:=hN σ7 H7 n7;refine{m',hm,i+1,σ7,H7,I7.unpinned,T.keep _ _ _ st5 λb hb o e=>(I7.pin (b,o) (QV _ (QV _ (dM hb e)))).1,λb hb=>?_,w7};obtain⟨o,e,d⟩:=T.obj _ _ st5 b hb;exact(I7.pin (b,o) (QV _ (QV _ (dM hb e)))).2.1
 cases f with
 | next=>obtain⟨σ7,H7,I7,n7⟩:=q7;exact again I7 n7
 | cont=>obtain⟨σ7,H7,I7,n7⟩:=q7;exact again I7 n7
 | brk=>obtain⟨σ7,H7,I7,q7⟩:=q7;exact⟨σ7,H7,I7.unpinned,q7⟩
 | ret v=>obtain⟨x7,σ7,H7,I7,r7,q7⟩:=q7;exact⟨x7,σ7,H7,I7.unpinned,r7,q7⟩
end
theorem dw {K:PySem.W.Frag} {xs:List V} {g:TG} {tb:TS} {D:Ends} {U:St} (Pv:Nat->St->Hp->Prop) (h0:Pv 0 U H) (hl:∀i U H,i<=xs.length->Pv i U H->SqL K H a xs)
  (hs:∀i x U H,xs[i]?=-x->Pv i U H->g x U H λσ2 H2=>tb { D with nx:=Pv (i+1),ct:=Pv (i+1),bk:=D.nx } σ2 H2) (hd:∀U H,Pv xs.length U H->D.nx U H) :
  ∃W:Nat->Nat->St->Hp->Prop,(∃m,W 0 m U H)/\∀i m U H,W i m U H ->
   ((Itl K a).stop i H/\D.nx U H)\/((Itl K a).go i H/\∃N:St->Hp->Prop,(∀σ' H',N σ' H'->∃m',m'<m/\W (i+1) m' σ' H')/\∀x H',(Itl K a).yld i H x H'->g x U H' λσ2 H2=>tb { D with nx:=N,ct:=N,bk:=D.nx } σ2 H2):=by
 refine{λi m U H=>m=xs.length-i/\i<=xs.length/\Pv i U H,{xs.length,by simp,QB _,h0},?_};rintro i m U H ⟨rfl,hi,p⟩;have q:=hl i U H hi p;by_cases hlt:i<xs.length
 ·refine .inr { {xs,xs[i],q,by simp[hlt]},Pv (i+1),λσ' H' p'=>{xs.length-(i+1),⋯,rfl,hlt,p'},λx H' y=>?_};obtain⟨e,y⟩:=y;subst e;exact hs i x U _ (y xs q) p
 have e:i=xs.length:=by omega
 subst e;exact .inl { {xs,q,Qh _},hd U H p}
theorem dO {lo:Int} {n:Nat} {g:TG} {tb:TS} {D:Ends} {U:St} (Pv:Nat->St->Hp->Prop) (h0:Pv 0 U H)
  (hs:∀i U H,i<n->Pv i U H->g (.int (lo+i)) U H λσ2 H2=>tb { D with nx:=Pv (i+1),ct:=Pv (i+1),bk:=D.nx } σ2 H2) (hd:∀U H,Pv n U H->D.nx U H) :
  ∃W:Nat->Nat->St->Hp->Prop,(∃m,W 0 m U H)/\∀i m U H,W i m U H ->
   ((Itr lo n).stop i H/\D.nx U H)\/((Itr lo n).go i H/\∃N:St->Hp->Prop,(∀σ' H',N σ' H'->∃m',m'<m/\W (i+1) m' σ' H')/\∀x H',(Itr lo n).yld i H x H'->g x U H' λσ2 H2=>tb { D with nx:=N,ct:=N,bk:=D.nx } σ2 H2):=by
 refine{λi m U H=>m=n-i/\i<=n/\Pv i U H,{n,by simp,QB _,h0},?_};rintro i m U H ⟨rfl,hi,p⟩;by_cases hlt:i<n
 ·refine .inr {hlt,Pv (i+1),λσ' H' p'=>{n-(i+1),⋯,rfl,hlt,p'},λx H' y=>?_};obtain⟨e,y⟩:=y;subst e y;exact hs i U _ hlt p
 have e:i=n:=by omega
 subst e;exact .inl {Qh _,hd U H p}
abbrev R2:=V->V->Hp->VK->Prop
def OpR (X:Cx) (f:Value->Value->Sem Value) (r:R2):Prop :=
 ∀(pins:J5) (s:Shared) (U:St) (H:Hp) (x y:V) (v u:Value) (Q:VK),Inv X pins U H s->aY x v->aY y u->r x y H Q ->
  wpAny (model X.prog X.w) X.A (f v u) (EP X pins U Q) X.xe s
def UnR (X:Cx) (f:Value->Sem Value) (r:V->Hp->VK->Prop):Prop :=
 ∀(pins:J5) (s:Shared) (U:St) (H:Hp) (x:V) (v:Value) (Q:VK),Inv X pins U H s->aY x v->r x H Q ->
  wpAny (model X.prog X.w) X.A (f v) (EP X pins U Q) X.xe s
def d6 (X:Cx) (f:Value) (r:List V->Hp->VK->Prop):Prop :=
 ∀(pins:J5) (s:Shared) (U:St) (H:Hp) (xs:List V) (us:List Value) (Q:VK),Inv X pins U H s->ba xs us->r xs H Q ->
  wpAny (model X.prog X.w) X.A (call f us) (EP X pins U Q) X.xe s
def tOp (r:R2) (ta tb:TE):TE:=λU H Q=>ta U H λx H1=>tb U H1 λy H2=>r x y H2 Q
def tUn (r:V->Hp->VK->Prop) (ta:TE):TE:=λU H Q=>ta U H λx H1=>r x H1 Q
def rI (C:Int->Int->Prop) (g:Int->Int->V):R2:=λx y H Q=>∃i j,x=.int i/\y=.int j/\C i j/\Q (g i j) H
def rI0 (g:Int->Int->V):R2:=λx y H Q=>∃i j,x=.int i/\y=.int j/\Q (g i j) H
def rU (g:Int->V):V->Hp->VK->Prop:=λx H Q=>∃i,x=.int i/\Q (g i) H
section
variable {X:Cx} {a b c:Expr} {ta tb tc:TE} {pos:Pos}
variable {f:Value->Value->Sem Value}
theorem BD (ha:PE X a ta) (hb:PE X b tb) {pins:J5} {s:Shared} {U:St} {H:Hp} {R:V->V->Hp->Prop} (I:Inv X pins U H s)
  (h:ta U H λx H1=>tb U H1 λy H2=>R x y H2) {Q:J0}
  (hf:∀v u s2 x y H2,Inv X pins U H2 s2->aY x v->aY y u->R x y H2->wpAny (model X.prog X.w) X.A (f v u) Q X.xe s2) :
  wpAny (model X.prog X.w) X.A (eval a X.env) (λv s₁=>wpAny (model X.prog X.w) X.A (eval b X.env) (λu s₂=>wpAny (model X.prog X.w) X.A (f v u) Q X.xe s₂) X.xe s₁) X.xe s:=by
 refine thn (ha pins s U H _ I h) λv s1 ⟨x,H1,I1,r1,q1⟩=>?_;refine thn (hb pins s1 U H1 _ I1 q1) λu s2 ⟨y,H2,I2,r2,q2⟩=>?_;exact hf v u s2 x y H2 I2 r1 r2 q2
theorem ap {op:Operator} {r:R2} (ho:OpR X (binaryOp op) r) (ha:PE X a ta) (hb:PE X b tb):PE X (.BinOp a op b pos) (tOp r ta tb):=by
 intro pins s U H Q I h;exact wpAny_BinOp (BD ha hb I h λv u s2 x y H2 I2 rx ry q=>ho pins s2 U H2 x y v u Q I2 rx ry q)
theorem mG {op:UnaryOp} {r:V->Hp->VK->Prop} (ho:UnR X (unaryOp op) r) (ha:PE X a ta):PE X (.UnaryOp op a pos) (tUn r ta):=by
 intro pins s U H Q I h;exact UnaryOp_ (thn (ha pins s U H _ I h) λv s1 ⟨x,H1,I1,r1,q1⟩=>ho pins s1 U H1 x v Q I1 r1 q1)
theorem opI {C:Int->Int->Prop} {g:Int->Int->Int}
  (rule:∀(i j:Int) (t u:Tok) (s:Shared) (Q:J0) (E:J0),C i j->Q (.int (g i j) s.toks) { s with toks:=s.toks+1 }->wpAny (model X.prog X.w) X.A (f (.int i t) (.int j u)) Q E s) :
  OpR X f (rI C λi j=>.int (g i j)):=by
 intro pins s U H x y v u Q I rx ry h;obtain⟨i,j,rfl,rfl,hc,q⟩:=h;obtain⟨t,rfl⟩:=rx;obtain⟨t',rfl⟩:=ry;exact rule i j t t' s _ _ hc {.int (g i j),H,I.tok _,⟨_,rfl⟩,q}
theorem A5 {g:Int->Int->Int}
  (rule:∀(i j:Int) (t u:Tok) (s:Shared) (Q:J0) (E:J0),Q (.int (g i j) s.toks) { s with toks:=s.toks+1 }->wpAny (model X.prog X.w) X.A (f (.int i t) (.int j u)) Q E s) :
  OpR X f (rI0 λi j=>.int (g i j)):=by
 intro pins s U H x y v u Q I rx ry h;obtain⟨i,j,rfl,rfl,q⟩:=h;obtain⟨t,rfl⟩:=rx;obtain⟨t',rfl⟩:=ry;exact rule i j t t' s _ _ {.int (g i j),H,I.tok _,⟨_,rfl⟩,q}
theorem A6 {g:Int->Int->Bool}
  (rule:∀(i j:Int) (t u:Tok) (s:Shared) (Q:J0) (E:J0),Q (.bool (g i j)) s->wpAny (model X.prog X.w) X.A (f (.int i t) (.int j u)) Q E s) :
  OpR X f (rI0 λi j=>.bl (g i j)):=by
 intro pins s U H x y v u Q I rx ry h;obtain⟨i,j,rfl,rfl,q⟩:=h;obtain⟨t,rfl⟩:=rx;obtain⟨t',rfl⟩:=ry;exact rule i j t t' s _ _ {.bl (g i j),H,I,rfl,q}
def Gn (i j:Int):Prop:=0<j/\j<1073741824
def Jo (i j:Int):Prop:=0<=j/\j<=1000000/\i.natAbs<2 ^ 64
def BI (i j:Int):Prop:=((unop% Neg.neg (2 ^ 64))<i/\i<2 ^ 64)\/((unop% Neg.neg (2 ^ 64))<j/\j<2 ^ 64)
theorem BI.ok {i j:Int} (h:BI i j):IntMulOk i j:=by
 rcases h with⟨h1,h2⟩|⟨h1,h2⟩
 ·exact .of_left (intBits_le_64 h1 h2)
 exact .of_right (intBits_le_64 h1 h2)
theorem qU (k:Nat):(0:Int)<=2 ^ k:=by
 rw[two_pow_cast];exact Int.natCast_nonneg _
theorem aR:OpR X (binaryOp .Add) (rI0 λi j=>.int (i+j)):=A5 λ_ _ _ _ _ _ _ q=>add_int q
theorem gb:OpR X (binaryOp .Sub) (rI0 λi j=>.int (i-j)):=A5 λ_ _ _ _ _ _ _ q=>sub_int q
theorem dq:OpR X (binaryOp .Mult) (rI BI λi j=>.int (i*j)):=opI λ_ _ _ _ _ _ _ hc q=>mul_int q hc.ok
theorem cK:OpR X (binaryOp .FloorDiv) (rI Gn λi j=>.int (i / j)):=opI λi j _ _ _ _ _ hc q=>by
 have h1:(0:Int)<j:=hc.1;have h2:j<1073741824:=hc.2;exact floordiv_int ⋯ (by rw[Int.fdiv_eq_ediv_of_nonneg i ⋯];exact q) (.inl (PyProof.noPylong_small ⋯))
theorem aS:OpR X (binaryOp .Mod) (rI (λ_ j=>0<j) λi j=>.int (i % j)):=opI λi j _ _ _ _ _ hc q=>by
 have h1:(0:Int)<j:=hc;exact mod_int' ⋯ (by rw[Int.fmod_eq_emod_of_nonneg i ⋯];exact q)
theorem we:OpR X (binaryOp .Pow) (rI Jo λi j=>.int (i ^ j.toNat)):=opI λ_ _ _ _ _ _ _ hc q=>pow_int_small hc.1 hc.2.1 hc.2.2 q
theorem A2:OpR X (binaryOp .RShift) (rI (λ_ j=>0<=j) λi j=>.int (i / 2 ^ j.toNat)):=opI λi j _ _ _ _ _ hc q =>
 rshift_int hc (by rw[Int.fdiv_eq_ediv_of_nonneg i (qU _)];exact q)
theorem A4:OpR X (binaryOp .BitAnd) (rI0 λi j=>.int (Builtin.bitAnd i j)):=A5 λ_ _ _ _ _ _ _ q=>and_int q
theorem unI {f:Value->Sem Value} {g:Int->Int}
  (rule:∀(i:Int) (t:Tok) (s:Shared) (Q:J0) (E:J0),Q (.int (g i) s.toks) { s with toks:=s.toks+1 }->wpAny (model X.prog X.w) X.A (f (.int i t)) Q E s) :
  UnR X f (rU λi=>.int (g i)):=by
 intro pins s U H x v Q I rx h;obtain⟨i,rfl,q⟩:=h;obtain⟨t,rfl⟩:=rx;exact rule i t s _ _ {.int (g i),H,I.tok _,⟨_,rfl⟩,q}
theorem iF:UnR X (unaryOp .USub) (rU λi=>.int ((unop% Neg.neg i))):=unI λ_ _ _ _ _ q=>neg_int q
end
noncomputable def xV:V->V->Bool
 | .non,.non=>true|.non,.int _=>true|.int _,.non=>true|.non,.bl _=>true|.bl _,.non=>true|.non,.str _=>true|.str _,.non=>true
 | .int _,.int _=>true|.bl _,.bl _=>true|.str _,.str _=>true|.byt _,.byt _=>true
 | .int _,.str _=>true|.str _,.int _=>true|.bl _,.str _=>true|.str _,.bl _=>true
 | _,_=>false
def rEq:R2:=λx y H Q=>xV x y=true/\Q (.bl (decide (x=y))) H
def rNe:R2:=λx y H Q=>xV x y=true/\Q (.bl (!decide (x=y))) H
theorem tT {i j:Int}:decide (V.int i=V.int j)=(i==j):=by
 rw[Bool.eq_iff_iff];simp
theorem xp {i j:Bool}:decide (V.bl i=V.bl j)=(i==j):=by
 rw[Bool.eq_iff_iff];simp
theorem tS {i j:Str}:decide (V.str i=V.str j)=(i==j):=by
 rw[Bool.eq_iff_iff];simp
theorem tU {i j:Array UInt8}:decide (V.byt i=V.byt j)=(i.toList==j.toList):=by
 rw[Bool.eq_iff_iff];cases i;cases j;simp
section
variable {X:Cx} {a b c:Expr} {ta tb tc:TE} {pos:Pos}
theorem bx {pins:J5} {U:St} {H:Hp} {s:Shared} {Q:VK} {k k':Bool} (I:Inv X pins U H s) (q:Q (.bl k) H) (e:k=k'):EP X pins U Q (.bool k') s:=by
 subst e;exact{.bl k,H,I,rfl,q}
theorem cE:OpR X (compareOp .Eq) rEq:=by
 intro pins s U H x y v u Q I rx ry h;obtain⟨hs,q⟩:=h
 cases x with
 | non =>
  cases rx
  cases y with
  | non=>cases ry;exact PySem.EqNone.eq_none_none (bx I q (by simp))
  | bl j=>cases ry;exact PySem.EqNone.eq_none_bool (bx I q (by simp))
  | int j=>obtain⟨t',rfl⟩:=ry;exact PySem.EqNone.eq_none_int (bx I q (by simp))
  | str j=>obtain⟨t',rfl⟩:=ry;exact PySem.EqNone.eq_none_str (bx I q (by simp))
  | _=>exact absurd (show false=true from hs) Qn
 | bl i =>
  cases rx
  cases y with
  | non=>cases ry;exact PySem.EqNone.eq_bool_none (bx I q (by simp))
  | bl j=>cases ry;exact eq_bool (bx I q xp)
  | str j=>obtain⟨t',rfl⟩:=ry;exact PySem.EqMixed.eq_bool_str (bx I q (by simp))
  | _=>exact absurd (show false=true from hs) Qn
 | int i =>
  obtain⟨t,rfl⟩:=rx
  cases y with
  | non=>cases ry;exact PySem.EqNone.eq_int_none (bx I q (by simp))
  | int j=>obtain⟨t',rfl⟩:=ry;exact eq_int (bx I q tT)
  | str j=>obtain⟨t',rfl⟩:=ry;exact PySem.EqMixed.eq_int_str (bx I q (by simp))
  | _=>exact absurd (show false=true from hs) Qn
 | str i =>
  obtain⟨t,rfl⟩:=rx
  cases y with
  | non=>cases ry;exact PySem.EqNone.eq_str_none (bx I q (by simp))
  | bl j=>cases ry;exact PySem.EqMixed.eq_str_bool (bx I q (by simp))
  | int j=>obtain⟨t',rfl⟩:=ry;exact PySem.EqMixed.eq_str_int (bx I q (by simp))
  | str j=>obtain⟨t',rfl⟩:=ry;exact eq_str (bx I q tS)
  | _=>exact absurd (show false=true from hs) Qn
 | byt i =>
  obtain⟨t,rfl⟩:=rx
  cases y with
  | byt j=>obtain⟨t',rfl⟩:=ry;exact PySem.W.eq_bytes (bx I q tU)
  | _=>exact absurd (show false=true from hs) Qn
 | _=>cases y <;> exact absurd (show false=true from hs) Qn
theorem jb:OpR X (compareOp .NotEq) rNe:=by
 intro pins s U H x y v u Q I rx ry h;obtain⟨hs,q⟩:=h
 cases x with
 | non =>
  cases rx
  cases y with
  | non=>cases ry;exact PySem.EqNone.ne_none_none (bx I q (by simp))
  | bl j=>cases ry;exact PySem.EqNone.ne_none_bool (bx I q (by simp))
  | int j=>obtain⟨t',rfl⟩:=ry;exact PySem.EqNone.ne_none_int (bx I q (by simp))
  | str j=>obtain⟨t',rfl⟩:=ry;exact PySem.EqNone.ne_none_str (bx I q (by simp))
  | _=>exact absurd (show false=true from hs) Qn
 | bl i =>
  cases rx
  cases y with
  | non=>cases ry;exact PySem.EqNone.ne_bool_none (bx I q (by simp))
  | bl j=>cases ry;exact ne_bool (bx I q (congrArg not xp))
  | str j=>obtain⟨t',rfl⟩:=ry;exact PySem.EqMixed.ne_bool_str (bx I q (by simp))
  | _=>exact absurd (show false=true from hs) Qn
 | int i =>
  obtain⟨t,rfl⟩:=rx
  cases y with
  | non=>cases ry;exact PySem.EqNone.ne_int_none (bx I q (by simp))
  | int j=>obtain⟨t',rfl⟩:=ry;exact ne_int (bx I q (congrArg not tT))
  | str j=>obtain⟨t',rfl⟩:=ry;exact PySem.EqMixed.ne_int_str (bx I q (by simp))
  | _=>exact absurd (show false=true from hs) Qn
 | str i =>
  obtain⟨t,rfl⟩:=rx
  cases y with
  | non=>cases ry;exact PySem.EqNone.ne_str_none (bx I q (by simp))
  | bl j=>cases ry;exact PySem.EqMixed.ne_str_bool (bx I q (by simp))
  | int j=>obtain⟨t',rfl⟩:=ry;exact PySem.EqMixed.ne_str_int (bx I q (by simp))
  | str j=>obtain⟨t',rfl⟩:=ry;exact ne_str (bx I q (congrArg not tS))
  | _=>exact absurd (show false=true from hs) Qn
 | byt i =>
  obtain⟨t,rfl⟩:=rx
  cases y with
  | byt j=>obtain⟨t',rfl⟩:=ry;exact PySem.W.ne_bytes (bx I q (congrArg not tU))
  | _=>exact absurd (show false=true from hs) Qn
 | _=>cases y <;> exact absurd (show false=true from hs) Qn
theorem jc:OpR X (compareOp .Lt) (rI0 λi j=>.bl (decide (i<j))):=A6 λ_ _ _ _ _ _ _ q=>lt_int q
theorem zT:OpR X (compareOp .Gt) (rI0 λi j=>.bl (decide (j<i))):=A6 λ_ _ _ _ _ _ _ q=>gt_int q
theorem wf:OpR X (compareOp .GtE) (rI0 λi j=>.bl (decide (j<=i))):=A6 λ_ _ _ _ _ _ _ q=>ge_int q
theorem tq:OpR X (compareOp .IsNot) (λx y H Q=>y=.non/\Q (.bl (!decide (x=.non))) H):=by
 intro pins s U H x y v u Q I rx ry h;obtain⟨rfl,q⟩:=h;cases ry;refine isnot_none_gen (bx I q ?_)
 cases x <;> first
  | (cases rx;rfl)
  | (obtain⟨t,rfl⟩:=rx;rfl)
variable {op:CmpOp}
theorem aN (b:Expr) (h:op≠.In:=by decide) (h2:op≠.NotIn:=by decide):behindInMarks op b=false:=by
 have e1:(op==CmpOp.In)=false:=by cases op <;> first|rfl|exact absurd rfl h
 have e2:(op==CmpOp.NotIn)=false:=by cases op <;> first|rfl|exact absurd rfl h2
 cases b <;> simp[behindInMarks,e1,e2]
theorem di {r:R2} (ho:OpR X (compareOp op) r) (ha:PE X a ta) (hb:PE X b tb) (hm:behindInMarks op b=false):PE X (.Compare a [op] [b] pos) (tOp r ta tb):=by
 intro pins s U H Q I h;exact wpAny_Compare1 (BD ha hb I h λv u s2 x y H2 I2 rx ry q=>ho pins s2 U H2 x y v u Q I2 rx ry q) hm
def y_ (t:TE):TT:=λU H Q=>t U H λx H'=>∃k,x=.bl k/\Q k H'
theorem aL {r:R2} (ho:OpR X (compareOp op) r) (ha:PE X a ta) (hb:PE X b tb) (hm:behindInMarks op b=false):PT X (.Compare a [op] [b] pos) (y_ (tOp r ta tb)):=by
 intro pins s U H Q I h
 refine wpAny_isTrue_Compare1 (thn (ha pins s U H _ I h) λv s1 ⟨x,H1,I1,r1,q1⟩=>thn (hb pins s1 U H1 _ I1 q1) λu s2 ⟨y,H2,I2,r2,q2⟩ =>
  thn (ho pins s2 U H2 x y v u _ I2 r1 r2 q2) λc s3 ⟨z,H3,I3,r3,k,e,q3⟩=>?_) hm
 subst e;cases r3;exact wpAny_truthy_bool ⟨H3,I3,q3⟩
theorem iQ:(sizeLine:Nat)<2 ^ 63:=by rw[XC];decide
theorem bO:OpR X (binaryOp .Add) (λx y H Q=>∃i j,x=.str i/\y=.str j/\i.length+j.length<=sizeLine/\Q (.str (i++j)) H):=by
 intro pins s U H x y v u Q I rx ry h;obtain⟨i,j,rfl,rfl,hz,q⟩:=h;obtain⟨t,rfl⟩:=rx;obtain⟨t',rfl⟩:=ry;exact add_str (λt' tk=>{.str (i++j),H,I.tok _,⟨_,rfl⟩,q}) hz
theorem d8 {x:V} {us:List Value} (r:ba [x] us):∃u,us=[u]/\aY x u:=by
 cases r with
 | cons r1 r2=>cases r2;exact⟨_,rfl,r1⟩
theorem sE {x y:V} {us:List Value} (r:ba [x,y] us):∃u w',us=[u,w']/\aY x u/\aY y w':=by
 cases r with
 | cons r1 r2 =>
 cases r2 with
 | cons r3 r4=>cases r4;exact⟨_,_,rfl,r1,r3⟩
theorem xE:d6 X (.builtin "abs") (λxs H Q=>∃i,xs=[.int i]/\Q (.int (if i<0 then (unop% Neg.neg i) else i)) H):=by
 intro pins s U H xs us Q I r h;obtain⟨i,rfl,q⟩:=h;obtain⟨u,rfl,t,rfl⟩:=d8 r;exact call_abs_int λu tk=>{.int (if i<0 then (unop% Neg.neg i) else i),H,I.tok _,⟨_,rfl⟩,q}
theorem m5 (hc:X.calm=true):d6 X (.builtin "min") (λxs H Q=>∃i j,xs=[.int i,.int j]/\Q (.int (if j<i then j else i)) H):=by
 intro pins s U H xs us Q I r h;obtain⟨i,j,rfl,q⟩:=h;obtain⟨u,w',rfl,⟨t,rfl⟩,⟨t',rfl⟩⟩:=sE r;refine min_two_ints (I.ok.hd hc) λh' tk k=>{_,H,I.kept k,?_,q};by_cases hj:j<i
 ·rw[QF hj,QF hj];exact⟨_,rfl⟩
 rw[QE hj,QE hj];exact⟨_,rfl⟩
end
structure ObjM (h:Heap) (x dx C:Addr) (mA:J6):Prop where
 obj:h.get? x=-PySem.W.instObj C dx
 ns:h.Ns1 dx mA
 ne:dx≠x
variable {mA mg:J6}
theorem uR (n:h.Ns1 dx mA):∃od,h.get? dx=-od/\∀name,PySem.W.lookIn name od=-mA name:=by
 obtain⟨o,es,ep,ho,hd,hk,_,hm⟩:=n;refine{o,ho,λname=>?_};have e:=hm name;unfold nsFind findBy at e;rw[<-Array.find?_toList]at e;unfold PySem.W.lookIn;rw[hd];dsimp only
 split
 ·rename_i y q
  rw[q]at e;exact congrArg some e
 rename_i q
 rw[q]at e
 have a:es.toList.any (·.refKey)=false:=by
  rw[List.any_eq_false];intro y hy;obtain⟨z,t,hkey⟩:=hk y (Array.mem_toList_iff.mp hy);simp[DictEntry.refKey,hkey]
 have a':¬es.toList.any (·.refKey)=true:=by rw[a];exact Qn
 rw[QE a'];exact congrArg some e
theorem ObjM.look {x:Addr} (I:ObjM h x dx C mA):∃od,PySem.W.InstAt h x (PySem.W.instObj C dx) C (-od)/\∀name,PySem.W.lookIn name od=-mA name :=
 let ⟨od,ho,hl⟩:=uR I.ns
 {od,⟨I.obj,rfl,rfl,ho⟩,hl}
section
variable {prog:Program} {w:World} {A:Around} {E:J0} {s:Shared} {K:PySem.W.Frag} {x dx C f:Addr} {mA:J6} {name:Str} {v:Value}
end
theorem lI.some_of {v:V} {o:Option Value} (r:lI (-v) o):∃u,o=-u/\aY v u:=by
 cases o with
 | none=>exact(show False from r).elim
 | some u=>exact⟨u,rfl,r⟩
section
variable {P:Program} {w:World} {H H':Hp} {h h':Heap} {a C dx:Addr} {fs fs':List (Str × V)}
theorem yJ (hok:HOk P w H h) (e:H a=-.ins C dx fs):∃mA,ObjM h a dx C mA/\(∀f,lI (fs.lookup f) (mA f))/\PySem.Within mA (fs.map (·.1))/\fs.length<=1000/\H dx=-.own a:=by
 obtain⟨d,z,ne,ob,mA,n,r,q⟩:=(show bG P w H h a (.ins C dx fs) from hok a _ e);exact{mA,⟨ob,n,ne⟩,r,q,z,d}
end
structure Cls (K:PySem.W.Frag) (C:Addr):Prop where
 pg:PySem.W.plainGet K C Str.empty=true
 hd:PySem.W.hasDictIn K C=true
 po:PySem.W.plainOver K C=true
 sa:PySem.W.findIn K (.ref C) "__setattr__" = - -.builtin "object.__setattr__"
theorem Cls.get (c:Cls K C) (f:Str):PySem.W.plainGet K C f=true:=c.pg
structure Con (K:PySem.W.Frag) (C:Addr) (f:Str) (v:V) (u:Value):Prop where
 at_:PySem.W.findIn K (.ref C) f=- -u
 rel:aY v u
 get:PySem.W.specialIn K u "__get__" = -none
 cp:PySem.W.copiedNames.contains f=false
structure Meth (K:PySem.W.Frag) (C:Addr) (m:Str) (f:Addr):Prop where
 at_:PySem.W.findIn K (.ref C) m=- -.ref f
 fn:PySem.W.isFn K (.ref f)=true
 kp:PySem.W.keepIn K (.ref f)=true
section
variable {X:Cx} {pins:J5} {U:St} {H:Hp} {s:Shared} {a C dx:Addr} {fs:List (Str × V)} {f:Str} {v:V} {A:Around} {E:J0}
end
def Gm (X:Cx) (op:Operator) (rd:V->V->Hp->VK->Prop):Prop :=
 ∀(pins:J5) (s:Shared) (U:St) (H:Hp) (x y:V) (u v:Value) (Q:VK),Inv X pins U H s->aY x u->aY y v->rd x y H Q->wpAny (model X.prog X.w) X.A (inplaceOp op u v) (EP X pins U Q) X.xe s
section
variable {X:Cx} {o e value:Expr} {f:Str} {pos pos' tpos:Pos} {ta tv:TE}
def Gr:V->V->Hp->VK->Prop:=λx y H Q=>∃i j,x=.int i/\y=.int j/\Q (.int (i-j)) H
theorem Bv:Gm X .Sub Gr:=by
 rintro pins s U H x y u v Q I rx ry ⟨i,j,rfl,rfl,q⟩;obtain⟨t,rfl⟩:=(show ∃t,u=Value.int i t from rx);obtain⟨t',rfl⟩:=(show ∃t',v=Value.int j t' from ry);exact PyProof.Rows.isub_int {.int (i-j),H,I.tok _,⟨_,rfl⟩,q}
end
section
variable {X:Cx} {pins:J5} {U:St} {H:Hp} {s:Shared} {A:Around} {E:J0} {Q:J0} {c:Value} {b:Bool}
inductive TyOf (K:PySem.W.Frag) (H:Hp):V->Value->Prop where
 | non:TyOf K H .non (.type "NoneType")
 | bl (x:Bool):TyOf K H (.bl x) (.type "bool")
 | int (i:Int):TyOf K H (.int i) (.type "int")
 | str (x:Str):TyOf K H (.str x) (.type "str")
 | flt (x:UInt64):TyOf K H (.flt x) (.type "float")
 | lst {a:Addr} {xs:List V} (e:H a=-.lst xs):TyOf K H (.ref a) (.type "list")
 | frz {a:Addr} {o:Obj} {xs:List V} (e:H a=-.frz o (.lst xs)):TyOf K H (.ref a) (.type "list")
 | tup {a:Addr} {xs:List V} (e:H a=-.tup xs):TyOf K H (.ref a) (.type "tuple")
 | dK {a:Addr} {kvs:List (Key × V)} (e:H a=-.dK kvs):TyOf K H (.ref a) (.type "dict")
 | dT {a:Addr} {kvs:List (List Key × V)} (e:H a=-.dT kvs):TyOf K H (.ref a) (.type "dict")
 | ins {a C dx:Addr} {fs:List (Str × V)} (e:H a=-.ins C dx fs) (cl:Cls K C) (ha:PySem.W.findIn K (.ref C) "__class__" = - -.builtin "object.__class__")
   (hn:PySem.W.specialIn K (.builtin "object.__class__") "__get__" = - -.builtin "getset_descriptor.__get__") (htk:PySem.W.takesIn K (.builtin "object.__class__")=-true)
   (hm:PySem.W.mroIn K C (.type "object")=-true):TyOf K H (.ref a) (.ref C)
theorem u0 {x:V} {u t:Value} (I:Inv X pins U H s) (rx:aY x u) (ty:TyOf X.K H x t) (e:PySem.W.kitOne X.K t c=-b) (h:∀tk,Q (.bool b) { s with toks:=tk }) :
  wpAny (model X.prog X.w) A (call (.builtin "isinstance") [u,c]) Q E s:=by
 cases ty with
 | non=>cases (show u=Value.none from rx);exact XF PySem.W.kitx_none I.kIn True.intro e (λz=>nomatch z) h
 | bl y=>cases (show u=Value.bool y from rx);exact XF PySem.W.kitx_bool I.kIn True.intro e (λz=>nomatch z) h
 | int i=>obtain⟨t,q⟩:=(show ∃t,u=Value.int i t from rx);cases q;exact XF PySem.W.kitx_int I.kIn True.intro e (λz=>nomatch z) h
 | str y=>obtain⟨t,q⟩:=(show ∃t,u=Value.str y t from rx);cases q;exact XF PySem.W.kitx_str I.kIn True.intro e (λz=>nomatch z) h
 | flt y=>obtain⟨t,q⟩:=(show ∃t,u=Value.float y t from rx);cases q;exact XF PySem.W.kitx_float I.kIn True.intro e (λz=>nomatch z) h
 | @lst a xs ea =>
  cases (show u=Value.ref a from rx);obtain⟨_,_,n,_,h1⟩:=(show bG X.prog X.w H s.heap a (.lst xs) from I.hok a _ ea);exact XF PySem.W.kitx_list I.kIn ⟨_,h1,rfl⟩ e (λz=>nomatch z) h
 | @frz a ob xs ea =>
  cases (show u=Value.ref a from rx);obtain⟨_,_,_,n,_,h1⟩:=(show bG X.prog X.w H s.heap a (.frz ob (.lst xs)) from I.hok a _ ea);exact XF PySem.W.kitx_list I.kIn ⟨_,h1,rfl⟩ e (λz=>nomatch z) h
 | @tup a xs ea =>
  cases (show u=Value.ref a from rx);obtain⟨_,_,_,p⟩:=(show bG X.prog X.w H s.heap a (.tup xs) from I.hok a _ ea);obtain⟨o,h1,h2,_⟩:=p;exact XF PySem.W.kitx_tuple I.kIn ⟨o,h1,h2⟩ e (λz=>nomatch z) h
 | @dK a kvs ea =>
  cases (show u=Value.ref a from rx);obtain⟨_,_,vs,_,p⟩:=(show bG X.prog X.w H s.heap a (.dK kvs) from I.hok a _ ea);obtain⟨o,es,ep,h1,h2,_⟩:=p;exact XF PySem.W.kitx_dict I.kIn ⟨o,h1,h2.1⟩ e (λz=>nomatch z) h
 | @dT a kvs ea =>
  cases (show u=Value.ref a from rx);obtain⟨_,_,xs,_,o,es,ep,h1,h2,_⟩:=(show bG X.prog X.w H s.heap a (.dT kvs) from I.hok a _ ea);exact XF PySem.W.kitx_dict I.kIn ⟨o,h1,h2.1⟩ e (λz=>nomatch z) h
 | @ins a C dx fs ea cl ha hn htk hm =>
 cases (show u=Value.ref a from rx);obtain⟨mA,O,_⟩:=yJ I.hok ea;obtain⟨od,J,_⟩:=O.look;exact XF (PySem.W.kitx_own (cl.get _) cl.hd ha hn htk hm) I.kIn J e (λz=>nomatch z) h
end
structure Room (k:Nat) (A:Around):Prop where
 hd:A.handled=none
 dp:A.depth+3*k+5<recursionLimit
 un:A.units+16*k+200<cLine
theorem Room.mono {j k:Nat} (r:Room k A) (h:j<=k):Room j A:={r.hd,by have:=r.dp;omega,by have:=r.un;omega}
theorem Room.deeper {k:Nat} (r:Room (k+1) A) (env:Env):Room k (A.deeper env) :=
 {r.hd,by have:=r.dp;show A.depth+1+3*k+5<_;omega,by have:=r.un;show A.units+3+16*k+200<_;omega}
theorem Room.depth {k:Nat} (r:Room k A):A.depth<recursionLimit:=by have:=r.dp;omega
theorem Room.units {k:Nat} (r:Room k A):A.units+64<cLine:=by have:=r.un;omega
def eL:TA:=λ_ H Q=>Q [] H
def bp (ta:TE) (tr:TA):TA:=λU H Q=>ta U H λx H1=>tr U H1 λxs H2=>Q (x::xs) H2
section
variable {X:Cx} {e:Expr} {es:List Expr} {te:TE} {t:TA} {pos:Pos}
theorem af:PA X [] eL:=λ_ _ _ _ H Q I h=>Calls.spliced_nil {[],H,I,.nil,h}
theorem aa (ha:PE X e te) (hr:PA X es t) (hs:starEach (e::es) X.env=(false,eval e X.env)::starEach es X.env:=by rfl):PA X (e::es) (bp te t):=by
 intro pos pins s U H Q I h;rw[hs];show wpAny _ _ (spliced ((false,eval e X.env)::backTo pos (starEach es X.env))) _ _ s;refine Calls.spliced_cons (thn (ha pins s U H _ I h) λu s1 ⟨x,H1,I1,r1,q1⟩=>?_);exact thn (hr pos pins s1 U H1 _ I1 q1) λus s2 ⟨xs,H2,I2,r2,q2⟩=>{x::xs,H2,I2,.cons r1 r2,q2}
def nr (t:TA):TE:=λU H Q=>t U H λxs H1=>xs.length<=sizeLine/\∀p,H1 p=none->Q (.ref p) (upd H1 p (.tup xs))
def vA (t:TA):TE:=λU H Q=>t U H λxs H1=>xs.length<=sizeLine/\∀p,H1 p=none->Q (.ref p) (upd H1 p (.lst xs))
theorem br {x1} (h:PA X es t):PE X (.Tuple es x1 pos) (nr t):=by
 intro pins s U H Q I hq;refine wpAny_Tuple_spliced (thn (h pos pins s U H _ I hq) λus s1 ⟨xs,H1,I1,r,z,q⟩=>{by rw[<-r.length];exact z,?_});have hf:H1 s1.heap.objs.size=none:=I1.hok.fresh (Qh _);refine{.ref s1.heap.objs.size,upd H1 s1.heap.objs.size (.tup xs),I1.laid (t':=s1.toks) (λb u e=>Qd _ e) (Qh _) ?_,rfl,q _ hf};exact{z,us,r,{_,Qr _ rfl,rfl,_,rfl} }
theorem aZ (h:PA X es t):PE X (.List es pos) (vA t):=by
 intro pins s U H Q I hq;refine wpAny_List_spliced (thn (h pos pins s U H _ I hq) λus s1 ⟨xs,H1,I1,r,z,q⟩=>{by rw[<-r.length];exact z,?_});have hf:H1 s1.heap.objs.size=none:=I1.hok.fresh (Qh _);refine{.ref s1.heap.objs.size,upd H1 s1.heap.objs.size (.lst xs),I1.laid (t':=s1.toks) (λb u e=>Qd _ e) (Qh _) ?_,rfl,q _ hf};exact{z,us,0,r,Qr _ rfl}
end
abbrev Sp:=List V->Hp->VK->XK->Prop
abbrev CXT:=List Env->Hp->Shared->XK->J0
structure Env0 (P:Program) (w:World) (K:PySem.W.Frag) (mg:J6) (base:Heap) (A:Around) (outer:List Env) (s:Shared) (H:Hp):Prop where
 frames:A.frames=-outer
 mod:Mod K mg base
 bs:∀b o,base.get? b=-o->s.heap.get? b=-o/\H b=none
 bsz:base.objs.size<=s.heap.objs.size
 funs:s.heap.FunFrames base outer
 frf:∀b∈frs outer,H b=none
 hok:HOk P w H s.heap
 bare:AllBare s.gens
def CE (outer:List Env) (P:Program) (w:World) (H:Hp) (s:Shared) (Q:VK) (u:Value) (s':Shared):Prop :=
 ∃v H',s'.os=s.os/\AllBare s'.gens/\Un (frs outer) [] H H' s.heap s'.heap/\HOk P w H' s'.heap/\aY v u/\Q v H'
def CR (CX:CXT) (outer:List Env) (P:Program) (w:World) (H:Hp) (s:Shared) (Q:VK) (E:XK) (r:Result) (s':Shared):Prop :=
 match r with
 | .ok (.ret u)=>CE outer P w H s Q u s'
 | .ok _=>False
 | .error e=>CX outer H s E e s'
structure FnOk (P:Program) (w:World) (K:PySem.W.Frag) (mg:J6) (base:Heap) (CX:CXT) (k:Nat) (f:Addr) (fd:FuncData) (ps:List Str) (sp:Sp):Prop where
 len:∀vs H Q E,sp vs H Q E->vs.length=ps.length
 run:∀(A:Around) (outer:List Env) (s:Shared) (H:Hp) (args:Args) (us:List Value) (vs:List V) (Q:VK) (E:XK),Room k A->Env0 P w K mg base A outer s H->BindsTo s fd args (ps.zip us)->ba vs us->sp vs H Q E ->
  codeAny (model P w) A (.call (.ref f) args) (CR CX outer P w H s Q E) s
section
variable {X:Cx} {pins:J5} {U:St} {H:Hp} {s s':Shared}
theorem Inv.env0 (I:Inv X pins U H s):Env0 X.prog X.w X.K X.mg X.base X.A X.stack s H :=
 {I.ok.frames,I.ok.mod,I.bs,QY I.ok.bsz I.sz,I.stack,I.stkFree,I.hok,I.bare}
theorem Inv.after {Q:VK} {u:Value} (I:Inv X pins U H s) (h:CE X.stack X.prog X.w H s Q u s'):EP X pins U Q u s':=by
 obtain⟨v,H',os,bare,un,hok,r,q⟩:=h;obtain⟨hh,g,d,t,os'⟩:=s';obtain rfl:os'=s.os:=os;exact{v,H',I.call (h':=hh) (g':=g) (d':=d) (t':=t) (ch:=[]) un hok bare (λb z=>absurd z (by simp)),r,q}
end
def i8 (sp:Sp) (dvs:List V) (E:XK) (t:TA):TE:=λU H Q=>t U H λvs H1=>sp (vs++dvs) H1 Q E
def gN (K:PySem.W.Frag) (fd:FuncData) (ps:List Str) (ds:List Value):Prop :=
 ∀(s:Shared) (us:List Value),K.In s.heap->(us++ds).length=ps.length->BindsTo s fd {us,[]} (ps.zip (us++ds))
variable {ps N:List Str}
theorem gN.all {fd:FuncData} (h:∀us:List Value,us.length=ps.length->bindArgs fd {us,[]}=pure (ps.zip us)):gN K fd ps []:=λs us _ hl=>by
 rw[List.append_nil]at hl ⊢;exact .of_eq (h us hl)
def lK (CX:CXT) (X:Cx) (E:XK):Prop:=∀(pins:J5) (U:St) (H:Hp) (s:Shared) (e:Value) (s':Shared),Inv X pins U H s->CX X.stack H s E e s'->X.xe e s'
section
variable {X:Cx} {CX:CXT} {k:Nat} {f C:Addr} {fd:FuncData} {ps:List Str} {sp:Sp} {dvs:List V} {ds:List Value} {E:XK} {x m:Str} {p pos apos:Pos} {e o:Expr} {es:List Expr} {ta:TE} {t:TA}
theorem AG {pins:J5} {U:St} {H:Hp} {s:Shared} {Q:VK} {us:List Value} {vs:List V} (F:FnOk X.prog X.w X.K X.mg X.base CX k f fd ps sp) (hr:Room k X.A) (hb:gN X.K fd ps ds) (hd:ba dvs ds) (hx:lK CX X E)
  (I:Inv X pins U H s) (r:ba vs us) (h:sp (vs++dvs) H Q E):wpAny (model X.prog X.w) X.A (call (.ref f) us) (EP X pins U Q) X.xe s:=by
 have r2:ba (vs++dvs) (us++ds):=r.append hd;have hl:(us++ds).length=ps.length:=by rw[<-r2.length];exact F.len _ _ _ _ h
 refine wpAny_call (codeAny_mono (F.run X.A X.stack s H {us,[]} (us++ds) (vs++dvs) Q E hr I.env0 (hb s us I.kIn hl) r2 h) λr s' hq=>?_)
 cases r with
 | error e=>exact hx pins U H s e s' I hq
 | ok fl =>
 cases fl with
 | ret u=>exact I.after hq
 | next=>exact False.elim hq
 | brk=>exact False.elim hq
 | cont=>exact False.elim hq
theorem yc (F:FnOk X.prog X.w X.K X.mg X.base CX k f fd ps sp) (hr:Room k X.A) (hg:Gl X x) (hm:X.mg x=-.ref f) (hk:PySem.W.keepIn X.K (.ref f)=true) (hb:gN X.K fd ps ds) (hd:ba dvs ds) (hx:lK CX X E)
  (ha:PA X (e::es) t) (hdb:(x==("__debug__" : Str))=false:=by decide) (he:starEach (e::es) X.env=(false,eval e X.env)::starEach es X.env:=by rfl) (hpl:(backTo pos (starEach es X.env)).any (·.1)=false:=by rfl) :
  PE X (.Call (.Name x p) (e::es) [] pos) (i8 sp dvs E t):=by
 intro pins s U H Q I h;refine wpAny_Call_Name_kw (ou I hg hm ?_ hdb);refine PySem.W.callWith_K (h₀:=X.base) I.ok.mod.kin hk (thn (ha pos pins s U H _ I h) λus s1 ⟨vs,H1,I1,r,q⟩=>{I1.kIn,?_}) he hpl;exact AG F hr hb hd hx I1 r q
structure Mk (K:PySem.W.Frag) (C f:Addr):Prop where
 makes:PySem.W.makesIn K C=true
 init:PySem.W.findIn K (.ref C) "__init__" = - -.ref f
 fn:PySem.W.isFn K (.ref f)=true
 kp:PySem.W.keepIn K (.ref C)=true
end
def PK (X:Cx) (kws:List Keyword) (t:TA):Prop :=
 ∀(pos:Pos) (pins:J5) (s:Shared) (U:St) (H:Hp) (Q:List V->Hp->Prop),Inv X pins U H s->t U H Q->wpAny (model X.prog X.w) X.A (evalAll ((backToKw pos (keywordEach kws X.env)).map (·.2))) (AP X pins U Q) X.xe s
section
variable {X:Cx} {CX:CXT} {k:Nat} {f C:Addr} {fd:FuncData} {ps ks:List Str} {sp:Sp} {E:XK} {x m:Str} {p pos apos kpos:Pos} {e o:Expr} {es:List Expr} {kws:List Keyword} {te ta:TE} {t tk:TA} {nm:Option Str}
theorem AQ:PK X [] eL:=λ_ _ _ _ H Q I h=>wpAny_evalAll_nil {[],H,I,.nil,h}
theorem xZ (ha:PE X e te) (hr:PK X kws t):PK X (⟨nm,e,kpos⟩::kws) (bp te t):=by
 intro pos pins s U H Q I h;show wpAny _ _ (evalAll ((do let v <-eval e X.env;standAt pos;pure v)::(backToKw pos (keywordEach kws X.env)).map (·.2))) _ _ s;refine wpAny_evalAll_cons (Qb (thn (ha pins s U H _ I h) λu s1 ⟨x,H1,I1,r1,q1⟩=>Qb (wpAny_standAt (Qf ?_))));exact thn (hr pos pins s1 U H1 _ I1 q1) λus s2 ⟨xs,H2,I2,r2,q2⟩=>{x::xs,H2,I2,.cons r1 r2,q2}
structure KBinds (K:PySem.W.Frag) (fd:FuncData) (ps ks:List Str) (g:List Value->List Value->List Value) (gV:List V->List V->List V):Prop where
 to:∀(s:Shared) (us ws:List Value),K.In s.heap->(g us ws).length=ps.length->BindsTo s fd {us,ks.zip ws} (ps.zip (g us ws))
 rel:∀{vs:List V} {us:List Value} {zs:List V} {ws:List Value},ba vs us->ba zs ws->ba (gV vs zs) (g us ws)
variable {g:List Value->List Value->List Value} {gV:List V->List V->List V}
end
structure FnScope (N P:List Str) (sc:Scope):Prop where
 kind:sc.kind=.function
 co:sc.isCoroutine=false
 gen:sc.isGenerator=false
 nd:N.Nodup
 pre:N.take P.length=P
 par:∀x∈P,sc.names.lookup x=-.local\/sc.names.lookup x=-.cell
 nofree:∀y∈sc.names,y.2≠.free
theorem m8 {kindOf:Str->Option NameKind} {x:Str}:∀{binds:List (Str × Value)} {m:J6},(∀v,(x,v)∉binds)->bindL kindOf binds m x=m x
 | [],_,_=>rfl
 | (n,v)::r,m,h=>by
  unfold bindL;rw[m8 λw hw=>h w (Qx _ hw)]
  split
  ·have:x≠n:=by rintro rfl;exact h v Xk
   simp[this]
  rfl
theorem m_ {kindOf:Str->Option NameKind} {x:Str}:∀{binds:List (Str × Value)} {m:J6},(∀v,(x,v)∉binds)->bindC kindOf binds m x=m x
 | [],_,_=>rfl
 | (n,v)::r,m,h=>by
  unfold bindC;rw[m_ λw hw=>h w (Qx _ hw)]
  split
  ·rfl
  have:x≠n:=by rintro rfl;exact h v Xk
  simp[this]
theorem m9 {kindOf:Str->Option NameKind} {x:Str} {v:Value}:∀{P:List Str} {vs:List Value} {i:Nat} {m:J6},P.Nodup->P[i]?=-x->vs[i]?=-v->kindOf x=some .local ->
  bindL kindOf (P.zip vs) m x=-v
 | [],_,_,_,_,h,_,_=>by simp at h
 | _::_,[],_,_,_,_,h,_=>by simp at h
 | p::P,w::vs,0,m,nd,h1,h2,hk=>by
  simp at h1 h2;subst h1;subst h2;show bindL kindOf ((p,w)::P.zip vs) m p=_;unfold bindL;rw[m8 λv hv=>(Q6.mp nd).1 (List.of_mem_zip hv).1,QF hk];simp
 | p::P,w::vs,i+1,m,nd,h1,h2,hk=>by
  show bindL kindOf ((p,w)::P.zip vs) m x=_;unfold bindL;exact m9 (i:=i) (Q6.mp nd).2 (~~~h1) (~~~h2) hk
theorem nc {kindOf:Str->Option NameKind} {x:Str} {v:Value}:∀{P:List Str} {vs:List Value} {i:Nat} {m:J6},P.Nodup->P[i]?=-x->vs[i]?=-v->kindOf x≠some .local ->
  bindC kindOf (P.zip vs) m x=-v
 | [],_,_,_,_,h,_,_=>by simp at h
 | _::_,[],_,_,_,_,h,_=>by simp at h
 | p::P,w::vs,0,m,nd,h1,h2,hk=>by
  simp at h1 h2;subst h1;subst h2;show bindC kindOf ((p,w)::P.zip vs) m p=_;unfold bindC;rw[m_ λv hv=>(Q6.mp nd).1 (List.of_mem_zip hv).1,QE hk];simp
 | p::P,w::vs,i+1,m,nd,h1,h2,hk=>by
  show bindC kindOf ((p,w)::P.zip vs) m x=_;unfold bindC;exact nc (i:=i) (Q6.mp nd).2 (~~~h1) (~~~h2) hk
def start (N:List Str) (vs:List V):St:=vs.map some++List.replicate (N.length-vs.length) none
noncomputable def cxOf (CX:CXT) (P:Program) (w:World) (K:PySem.W.Frag) (mg:J6) (base:Heap) (N:List Str) (qual:Str) (scope:Scope) (f:Addr) (cd:Value) (A:Around) (outer:List Env) (s:Shared) (H:Hp) (E:XK):Cx where
 prog:=P
 w:=w
 K:=K
 mg:=mg
 base:=base
 A:=A.deeper (envOfC qual scope s.heap.objs.size f cd)
 N:=N
 s₀:=s
 H₀:=H
 env:=envOfC qual scope s.heap.objs.size f cd
 outer:=outer
 stack:=envOfC qual scope s.heap.objs.size f cd::outer
 ex:=[]
 calm:=true
 fn:=λ_=>true
 pn:=[]
 xe:=λe s'=>wpAny (model P w) (A.deeper (envOfC qual scope s.heap.objs.size f cd)) (leaving (envOfC qual scope s.heap.objs.size f cd) e) (λ_ s''=>CX outer H s E e s'') (λe' s''=>CX outer H s E e' s'') s'
variable {sc scope:Scope}
theorem qN {n:Nat} {x:Str} (h:sc.names.lookup x=-.cell):∃c,(cellsFrom n sc.names []).lookup x=-c:=by
 have q:=PySem.W.cellsFrom_some sc.names n [] (.inl h);exact Option.isSome_iff_exists.mp q
theorem u4 {CX:CXT} {qual:Str} {outer:List Env} {E:XK} {us:List Value} {vs:List V}
  (S:FnScope N ps scope) (hd:A.handled=none) (e0:Env0 P w K mg base A outer s H) (hl:vs.length=ps.length) (r:ba vs us)
  (x:InCallC s s.heap.objs.size (bindL (envOfC qual scope s.heap.objs.size f cd).kindOf (ps.zip us) λ_=>none) (cellsFrom (s.heap.objs.size+1) scope.names []) (bindC (envOfC qual scope s.heap.objs.size f cd).kindOf (ps.zip us) λ_=>none) s1) :
  Inv (cxOf CX P w K mg base N qual scope f cd A outer s H E) [] (start N vs) H s1:=by
 have hpl:ps.length<=N.length:=by have:=congrArg List.length S.pre;rw[Qt]at this;omega
 obtain⟨h1,tk,rfl,hk⟩:=x.done;have noA:∀b:Addr,b∉(cxOf CX P w K mg base N qual scope f cd A outer s H E).ex:=λb z=>absurd (show b∈([]:J7) from z) (by simp)
 refine{ {e0.mod,S.kind,rfl,rfl,Qh _,λy z c h1 h2=>?_,λy hy=>?_,λy c _ h=>?_,λ_=>hd,Around.frames_deeper e0.frames,.inr ⟨rfl,rfl⟩,λb z=>absurd z (noA b),e0.bs,e0.bsz,λb _ _=>noA b,λb z=>absurd z (noA b),e0.funs,e0.frf},
  rfl,e0.bare,Un.kept hk,{_,x.toInCall.ns,λi y v h1 h2 h3=>?_},λy c h=>{_,x.cell y c h},e0.hok.fresh (Qh _),λy c h=>?_,λp hp=>absurd (show p∈([]:J5) from hp) (by simp),e0.hok.kept hk,?_}
 ·exact name_of_addr x.apart (PySem.mem_of_lookup h1) (PySem.mem_of_lookup h2)
 ·have hy:scope.names.lookup y=-.cell\/scope.names.lookup y=-.free:=hy;rcases hy with hy|hy
  ·exact qN hy
  exact absurd rfl (S.nofree _ (PySem.mem_of_lookup hy))
 ·exact Xx (x.above y c (PySem.mem_of_lookup h))
 ·have hi:i<vs.length:=by
   unfold start at h2;by_cases hi:i<vs.length
   ·exact hi
   rw[QK (~~~hi)]at h2;rw[List.getElem?_replicate]at h2
   split at h2 <;> cases h2
  have ha:vs[i]?=-v:=by
   unfold start at h2;rw[QO (~~~hi),Qi]at h2
   cases e:vs[i]? with
   | none=>rw[e]at h2;cases h2
   | some a=>rw[e]at h2;cases h2;rfl
  obtain⟨u,hu,rv⟩:=r.get ha
  have hp:ps[i]?=-y:=by
   rw[<-S.pre,List.getElem?_take_of_lt ⋯];exact h1
  have ndP:ps.Nodup:=by rw[<-S.pre];exact S.nd.sublist (List.take_sublist _ _)
  refine{u,rv,?_};rcases S.par y (Qg hp) with k|k
  ·exact .inl {k,m9 ndP hp hu k}
  obtain⟨c,e⟩:=qN (n:=s.heap.objs.size+1) k;refine .inr {.inl k,c,e,?_};have q:=x.cell y c e;rw[nc ndP hp hu (by show scope.names.lookup y≠_;rw[k];decide)]at q;exact q
 ·exact e0.hok.fresh (Xx (x.above y c (PySem.mem_of_lookup h)))
 unfold start;show _=N.length;rw[Qk,Qa,List.length_replicate];omega
theorem Au {CX:CXT} {k:Nat} {name qual:Str} {params:Arguments} {body:List Stmt} {kV:Value} {an od:Option Addr}
  {osl:Array (Option Value)} {sp:Sp} (lk:K.lookup f=some {oc,od,.func (PySem.W.fnOf name qual params body scope dV kV doc pm an cdv ct),osl}) (hcd:PySem.W.codeIn K cdv qual=true) (S:FnScope N ps scope)
  (len:∀vs H Q E,sp vs H Q E->vs.length=ps.length)
  (hbody:∀(A:Around) (outer:List Env) (s:Shared) (H:Hp) (vs:List V) (Q:VK) (E:XK),Room k (A.deeper (envOfC qual scope s.heap.objs.size f cdv))->sp vs H Q E ->
   ∃t,PSs (cxOf CX P w K mg base N qual scope f cdv A outer s H E) body t/\t { nx:=λ_ H'=>Q .non H',rt:=Q } (start N vs) H) :
  FnOk P w K mg base CX (k+1) f (PySem.W.fnOf name qual params body scope dV kV doc pm an cdv ct) ps sp:=by
 refine{len,λA outer s H args us vs Q E hr e0 hb r hsp=>?_};have hl:=len _ _ _ _ hsp;have KX:K.In s.heap:=e0.mod.kin.keeps λb o e=>(e0.bs b o e).1;have lim:s.heap.NoLimit:=e0.mod.nolimit.keeps λb o e=>(e0.bs b o e).1
 have hkind:∀y∈ps.zip us,scope.names.lookup y.1=-.local\/(scope.names.lookup y.1=-.cell/\((cellsFrom (s.heap.objs.size+1) scope.names []).lookup y.1).isSome=true):=λ⟨n,v⟩ hy=>by
  rcases S.par n (List.of_mem_zip hy).1 with q|q
  ·exact .inl q
  exact .inr {q,PySem.W.cellsFrom_some _ _ _ (.inl q)}
 refine codeAny_call_function hr.depth (KX _ _ lk) rfl S.co S.gen rfl (PySem.W.codeRec_of KX hcd) (hb _ _ _ _ ?_);refine wpAny_newFunctionEnv_cells S.kind hkind λenv he s1 x=>?_;subst he;refine{lim.keeps x.toInCall.keep,codeAny_func ?_};obtain⟨t,ht,hq⟩:=hbody A outer s H vs Q E (hr.deeper _) hsp;have I:Inv (cxOf CX P w K mg base N qual scope f cdv A outer s H E) [] (start N vs) H s1:=u4 S hr.hd e0 hl r x;refine Xr (ht [] s1 (start N vs) H _ I hq) (λfl s' hs=>?_) λe s' hs=>hs
 have fin:∀{σ':St} {H':Hp} {v:V} {u:Value},Inv (cxOf CX P w K mg base N qual scope f cdv A outer s H E) [] σ' H' s'->aY v u->Q v H'->CE outer P w H s Q u s' :=
  λ{σ' H' v u} J rv q=>⟨v,H',J.os,J.bare,J.base,J.hok,rv,q⟩
 cases fl with
 | ret u =>
  obtain⟨v,σ',H',J,rv,q⟩:=hs;exact fin J rv q
 | next =>
  obtain⟨σ',H',J,q⟩:=hs;exact fin (v:=V.non) (u:=Value.none) J rfl q
 | brk =>
  obtain⟨_,_,_,q⟩:=hs;exact False.elim q
 | cont =>
 obtain⟨_,_,_,q⟩:=hs;exact False.elim q
section
variable {X:Cx} {x:Str} {p pos:Pos} {e:Expr} {es:List Expr} {t:TA} {id T:String} {r:List V->Hp->VK->Prop}
def tCB (r:List V->Hp->VK->Prop) (t:TA):TE:=λU H Q=>t U H λvs H1=>r vs H1 Q
theorem aE (hc:d6 X (.builtin id) r) (hg:Gl X x) (hm:X.mg x=none) (hv:bootBuiltins x=-.builtin id) (ha:PA X (e::es) t) (hn:x ≠ "__name__" := by decide) (hdb:(x==("__debug__" : Str))=false:=by decide)
  (he:starEach (e::es) X.env=(false,eval e X.env)::starEach es X.env:=by rfl) (hpl:(backTo pos (starEach es X.env)).any (·.1)=false:=by rfl):PE X (.Call (.Name x p) (e::es) [] pos) (tCB r t):=by
 intro pins s U H Q I h;refine wpAny_Call_Name_kw (d7 I hg hm hv ?_ hn hdb);exact PyProof.Rows.callWith_builtin1 (thn (ha pos pins s U H _ I h) λus s1 ⟨vs,H1,I1,r1,q1⟩=>hc pins s1 U H1 vs us Q I1 r1 q1) he hpl
theorem dI (hc:d6 X (.type T) r) (hg:Gl X x) (hm:X.mg x=none) (hv:bootBuiltins x=-.type T) (ha:PA X (e::es) t) (hn:x ≠ "__name__" := by decide) (hdb:(x==("__debug__" : Str))=false:=by decide)
  (he:starEach (e::es) X.env=(false,eval e X.env)::starEach es X.env:=by rfl) (hpl:(backTo pos (starEach es X.env)).any (·.1)=false:=by rfl):PE X (.Call (.Name x p) (e::es) [] pos) (tCB r t):=by
 intro pins s U H Q I h;refine wpAny_Call_Name_kw (d7 I hg hm hv ?_ hn hdb);exact Xf (thn (ha pos pins s U H _ I h) λus s1 ⟨vs,H1,I1,r1,q1⟩=>hc pins s1 U H1 vs us Q I1 r1 q1) he hpl
end
end L2
namespace HT
open PySem PyProof.Rows
section
open PySem.SeqAt
open PySem.AutoSeq1 (wpAny_loadPart')
open PySem.MeetsSeq PySem.MeetsSeq2 PySem.MeetsSeq3
end
section
variable {prog:Program} {w:World} {A:Around} {E:J0} {s:Shared}
def sIx (n d:Nat):Option Int->Nat
 | none=>d
 | some v=>if v<0 then (v+(n:Int)).toNat else min v.toNat n
theorem ki (n d:Nat):sIx n d none=d:=rfl
theorem nP (n d k:Nat):sIx n d (-(k:Int))=min k n:=by
 show (if (k:Int)<0 then ((k:Int)+(n:Int)).toNat else min (k:Int).toNat n)=min k n;rw[QE ⋯,Xq]
end
end HT
namespace L2
open PySem PySem.Spec PyProof.Rows
abbrev TO:=St->Hp->(Option Int->Hp->Prop)->Prop
def PO (X:Cx) (e:Option Expr) (t:TO):Prop :=
 ∀(pins:J5) (s:Shared) (U:St) (H:Hp) (Q:Option Int->Hp->Prop),Inv X pins U H s->t U H Q ->
  wpAny (model X.prog X.w) X.A (evalPart e X.env) (λu s'=>∃o H',Inv X pins U H' s'/\IsPart u o/\Q o H') X.xe s
def nv:TO:=λ_ H Q=>Q none H
def sI (t:TE):TO:=λU H Q=>t U H λx H1=>∃i,x=.int i/\Q (-i) H1
section
variable {X:Cx} {e:Expr} {te:TE} {lo hi:Option Expr} {tl th:TO} {pos p2:Pos}
theorem bu:PO X none nv:=by
 intro pins s U H Q I h;rw[evalPart_none];exact Qf {none,H,I,.none,h}
theorem bt (h:PE X e te):PO X (-e) (sI te):=by
 intro pins s U H Q I hw;rw[evalPart_some];refine thn (h pins s U H _ I hw) λu s1 ⟨x,H1,I1,r1,q1⟩=>?_;obtain⟨i,rfl,q⟩:=q1;obtain⟨t,rfl⟩:=r1;exact{-i,H1,I1,.int i t,q}
def SlR (X:Cx) (r:V->Option Int->Option Int->Hp->VK->Prop):Prop :=
 ∀(pins:J5) (s:Shared) (U:St) (H:Hp) (x:V) (v vl vu:Value) (lo hi:Option Int) (sl:Addr) (Q:VK),Inv X pins U H s->aY x v->s.heap.IsSliceOf sl vl vu .none->IsPart vl lo->IsPart vu hi->r x lo hi H Q ->
  ∃T id,typeLookup (.type T) "__getitem__" = pure (-.builtin id)/\s.TypeIs v T/\wpAny (model X.prog X.w) X.A (getItem v (.ref sl)) (EP X pins U Q) X.xe s
def tSl (r:V->Option Int->Option Int->Hp->VK->Prop) (te:TE) (tl th:TO):TE:=λU H Q=>te U H λx H1=>tl U H1 λl H2=>th U H2 λu H3=>r x l u H3 Q
theorem a9 {r:V->Option Int->Option Int->Hp->VK->Prop} (hr:SlR X r) (he:PE X e te) (hl:PO X lo tl) (hu:PO X hi th):PE X (.Subscript e (.Slice lo hi none p2) pos) (tSl r te tl th):=by
 intro pins s U H Q I h;refine Subscript_ (thn (he pins s U H _ I h) λv s1 ⟨x,H1,I1,r1,q1⟩=>?_);refine wpAny_Slice (thn (hl pins s1 U H1 _ I1 q1) λvl s2 ⟨l,H2,I2,pl,q2⟩=>thn (hu pins s2 U H2 _ I2 q2) λvu s3 ⟨u,H3,I3,pu,q3⟩=>?_);rw[evalPart_none];refine Qf ?_;have I4:Inv X pins U H3 { s3 with heap:=s3.heap.push { cls:=.type "slice", data:=.fields #[vl,vu,.none] } }:=I3.kept (t':=s3.toks) λb ob q=>Qd _ q;obtain⟨T,id,hT,ht,hg⟩:=hr pins { s3 with heap:=s3.heap.push { cls:=.type "slice", data:=.fields #[vl,vu,.none] } } U H3 x v vl vu l u s3.heap.objs.size Q I4 r1 (Heap.IsSliceOf.new ..) pl pu q3;show wpAny (model X.prog X.w) X.A (subscriptTail e (.Slice lo hi none p2) v (.ref s3.heap.objs.size)) (EP X pins U Q) X.xe { s3 with heap:=s3.heap.push { cls:=.type "slice", data:=.fields #[vl,vu,.none] } };exact tail_any (ops:=[.ref s3.heap.objs.size,v]) ht hT hg (by with_unfolding_all rfl)
def fS (xs:List V) (lo hi:Option Int):List V:=(xs.drop (HT.sIx xs.length 0 lo)).take (HT.sIx xs.length xs.length hi-HT.sIx xs.length 0 lo)
theorem ji (xs:List V) (lo hi:Option Int):(fS xs lo hi).length<=xs.length:=by
 unfold fS;rw[Qt,Q5];omega
end
def ixN (n:Nat) (i:Int):Option Nat:=if 0<=i then (if i<n then -i.toNat else none) else if (unop% Neg.neg (n:Int))<=i then some (i+n).toNat else none
def atI {α:Type} (xs:List α) (i:Int):Option α:=(ixN xs.length i).bind λj=>xs[j]?
theorem tM {n:Nat} {i:Int} {j:Nat} (h:ixN n i=-j):seqIndex? i n=-j/\j<n/\(unop% Neg.neg (n:Int))<=i/\i<n:=by
 unfold ixN at h;by_cases h0:0<=i
 ·rw[QF h0]at h;by_cases h1:i<n
  ·rw[QF h1]at h;have e:i.toNat=j:=Q2 h;exact{by rw[seqIndex_of h0 h1,e],⋯,⋯,h1}
  rw[QE h1]at h;cases h
 rw[QE h0]at h;by_cases h1:(unop% Neg.neg (n:Int))<=i
 ·rw[QF h1]at h;have e:(i+n).toNat=j:=Q2 h;exact{by rw[seqIndex_neg ⋯ h1,e],⋯,h1,⋯}
 rw[QE h1]at h;cases h
theorem oP {α:Type} {xs:List α} {i:Int} {v:α} (h:atI xs i=-v):∃j,seqIndex? i xs.length=-j/\xs[j]?=-v/\j<xs.length/\(unop% Neg.neg (xs.length:Int))<=i/\i<xs.length:=by
 unfold atI at h
 cases e:ixN xs.length i with
 | none=>rw[e]at h;cases h
 | some j =>
 rw[e]at h;obtain⟨h1,h2,h3,h4⟩:=tM e;exact⟨j,h1,h,h2,h3,h4⟩
theorem ck {α:Type} {xs:List α} {j:Nat} {v:α} (h:xs[j]?=-v):atI xs (j:Int)=-v:=by
 have hj:j<xs.length:=(Qe.mp h).1
 have e:ixN xs.length (j:Int)=-j:=by
  unfold ixN;rw[QF ⋯,QF ⋯];simp
 unfold atI;rw[e];exact h
def yW (b:Expr):Prop:=∀o i,subscripted b false o i=operate [o,i] (getItem o i)
def IxR (X:Cx) (r:R2):Prop :=
 ∀(value slice:Expr) (pins:J5) (s:Shared) (U:St) (H:Hp) (x y:V) (v u:Value) (Q:VK),Inv X pins U H s->aY x v->aY y u->r x y H Q ->
  subscripted slice false v u=operate [v,u] (getItem v u)->wpAny (model X.prog X.w) X.A (subscriptTail value slice v u) (EP X pins U Q) X.xe s
def MtR (X:Cx) (id:String) (r:V->List V->Hp->VK->Prop):Prop :=
 ∀(pins:J5) (s:Shared) (U:St) (H:Hp) (x:V) (xs:List V) (v:Value) (us:List Value) (Q:VK),Inv X pins U H s->aY x v->ba xs us->r x xs H Q ->
  wpAny (model X.prog X.w) X.A (call (.builtin id) (v::us)) (EP X pins U Q) X.xe s
section
variable {X:Cx} {a b:Expr} {ta tb:TE} {pos:Pos}
theorem aD {r:R2} (hr:IxR X r) (ha:PE X a ta) (hb:PE X b tb) (hs:yW b:=by exact λ_ _=>rfl):PE X (.Subscript a b pos) (tOp r ta tb):=by
 intro pins s U H Q I h;exact Subscript_ (BD ha hb I h λv u s2 x y H2 I2 rx ry q=>hr a b pins s2 U H2 x y v u Q I2 rx ry q (hs _ _))
def rh (K:PySem.W.Frag):R2:=λx y H Q=>∃p xs i v,x=.ref p/\y=.int i/\SqL K H p xs/\atI xs i=-v/\Q v H
def pV (K:PySem.W.Frag):R2:=λx y H Q=>∃p xs i v,x=.ref p/\y=.int i/\SqT K H p xs/\atI xs i=-v/\Q v H
def B1:R2:=λx y H Q=>∃z i c,x=.str z/\y=.int i/\z.length<=sizeLine/\atI z.cps.toList i=-c/\Q (.str {#[c]}) H
theorem aH:IxR X (rh X.K):=by
 intro value slice pins s U H x y v u Q I rx ry h hs;obtain⟨p,xs,i,z,rfl,rfl,hq,he,q⟩:=h;cases rx;obtain⟨t,rfl⟩:=ry;obtain⟨its,r,pl,hz⟩:=I.list hq;obtain⟨j,h1,h2,h3,h4,h5⟩:=oP he;obtain⟨w,ew,rw'⟩:=r.get h2;have hl:=r.length;have hn:=iQ;have fin:EP X pins U Q w s:=⟨z,H,I,rw',q⟩;by_cases h0:0<=i
 ·have hj:i.toNat=j:=by
   rw[seqIndex_of h0 h5]at h1;exact Q2 h1
  exact item_listR pl.isList h0 ⋯ (by rw[hj];simpa using ew) fin hs
 have hj:(i+(its.toArray.size:Int)).toNat=j:=by
  rw[seqIndex_neg ⋯ h4]at h1;rw[Ql,<-hl];exact Q2 h1
 exact subscriptTail_builtinR (x:=w) pl.isList.typeIs slot_list_getitem.lookup
  (wpAny_getItem_list_neg (Q:=λr s'=>r=w/\EP X pins U Q r s') pl.isList ⋯ (by rw[Ql] <;> omega) ⋯ (by rw[hj];simpa using ew) ⟨rfl,fin⟩) hs
theorem bd:IxR X (pV X.K):=by
 intro value slice pins s U H x y v u Q I rx ry h hs;obtain⟨p,xs,i,z,rfl,rfl,hq,he,q⟩:=h;cases rx;obtain⟨t,rfl⟩:=ry;obtain⟨its,r,pl,hz⟩:=I.tuple hq;obtain⟨j,h1,h2,h3,h4,h5⟩:=oP he;obtain⟨w,ew,rw'⟩:=r.get h2;have hl:=r.length;have hn:=iQ;have fin:EP X pins U Q w s:=⟨z,H,I,rw',q⟩
 exact subscriptTail_builtinR (x:=w) pl.typeIs slot_tuple_getitem.lookup
  (getItem_tuple (j:=j) (Q:=λr s'=>r=w/\EP X pins U Q r s') pl ⋯ ⋯ (by rw[Ql,<-hl];exact h1) (~~~ew) ⟨rfl,fin⟩) hs
theorem fh:IxR X B1:=by
 intro value slice pins s U H x y v u Q I rx ry h hs;obtain⟨z,i,c,rfl,rfl,hz,he,q⟩:=h;obtain⟨t,rfl⟩:=rx;obtain⟨t',rfl⟩:=ry;obtain⟨j,h1,h2,h3,h4,h5⟩:=oP he;have hl:z.cps.toList.length=z.length:=by simp[Str.length]
 rw[hl]at h1 h4 h5;have hn:=iQ
 exact tail_any (typeIs_str s z t) slot_str_getitem.lookup (getItem_str (c:=c) (by
  have e1:decide (i < (unop% Neg.neg (2 ^ 63:Int)))=false:=QC ⋯;have e2:decide (i>=2 ^ 63)=false:=QC ⋯
  rw[e1,e2,Bool.or_false]) (by rw[h1];simpa using h2) {.str {#[c]},H,I.tok _,⟨_,rfl⟩,q}) hs
theorem rP (its:List Value) (n j:Nat) (u:Value):Obj.mapSeq (·.setIfInBounds j u) { cls:=.type "list", data:=.seq its.toArray n }={ cls:=.type "list", data:=.seq (its.set j u).toArray n }:=by
 simp[Obj.mapSeq]
variable {s:Shared} {pins:J5}
theorem Inv.lst {U:St} {H:Hp} {p:Addr} {xs:List V} (I:Inv X pins U H s) (h:H p=-.lst xs) :
  ∃(its:List Value) (n:Nat),ba xs its/\s.heap.get? p=some { cls:=.type "list", data:=.seq its.toArray n }/\xs.length<=sizeLine:=by
 obtain⟨z,its,n,r,e⟩:=I.hok p _ h;exact⟨its,n,r,e,z⟩
theorem Inv.lstUpd {U:St} {H:Hp} {p:Addr} {xs ys:List V} {its its':List Value} {n n':Nat} {f:Obj->Obj} (I:Inv X pins U H s) (h:H p=-.lst xs)
  (ho:s.heap.get? p=some { cls:=.type "list", data:=.seq its.toArray n }) (hf:f { cls:=.type "list", data:=.seq its.toArray n }={ cls:=.type "list", data:=.seq its'.toArray n' }) (r:ba ys its') (hz:ys.length<=sizeLine) (t:Nat) :
  Inv X pins U (upd H p (.lst ys)) { s with heap:=s.heap.update p f,toks:=t }:=by
 have e:(s.heap.update p f).get? p=some { cls:=.type "list", data:=.seq its'.toArray n' }:=by
  rw[XO f ho (by rw[hf] <;> rfl),hf]
 refine I.write (x:=p) (e:=p) (by rw[h];trivial) (.inl rfl) (λb u hb q=>(Q4 _ _ (XJ hb)).trans q) ⟨_,e⟩ ?_;exact⟨hz,its',n',r,e⟩
def zp:V->V->V->Hp->(Hp->Prop)->Prop:=λo i v H Q=>∃p xs k j,o=.ref p/\i=.int k/\H p=-.lst xs/\ixN xs.length k=-j/\Q (upd H p (.lst (xs.set j v)))
theorem pI:Gj X zp:=by
 intro pins s U H o i v ov iv u Q I ro ri rv h;obtain⟨p,xs,k,j,rfl,rfl,hp,hj,q⟩:=h;cases ro;obtain⟨t,rfl⟩:=ri;obtain⟨its,n,r,ho,hz⟩:=I.lst hp;obtain⟨h1,h2,h3,h4⟩:=tM hj;have hl:=r.length;have hn:=iQ
 have I':Inv X pins U (upd H p (.lst (xs.set j v))) { s with heap:=s.heap.update p (Obj.mapSeq (·.setIfInBounds j u)) } :=
  I.lstUpd hp ho (rP its n j u) (r.set rv j) (by rw[List.length_set];exact hz) s.toks
 by_cases h0:0<=k
 ·have hk:k.toNat=j:=by
   rw[seqIndex_of h0 h4]at h1;exact Q2 h1
  exact PySem.W.ki_setAt ho h0 ⋯ (by rw[Ql,<-hl];exact h4) (by rw[hk];exact⟨_,I',q⟩)
 have hk:(k+(its.toArray.size:Int)).toNat=j:=by
  rw[seqIndex_neg ⋯ h3]at h1;rw[Ql,<-hl];exact Q2 h1
 exact PySem.W.ki_setBack ho ⋯ (by rw[Ql,<-hl];exact h3) ⋯ (by rw[hk];exact⟨_,I',q⟩)
theorem zj (i:Int) (n:Nat):max 0 (min (if i<0 then i+(n:Int) else i) (n:Int))=(((if i<0 then (i+(n:Int)).toNat else min i.toNat n):Nat):Int):=by
 by_cases h:i<0
 ·rw[QF h,QF h,Int.min_eq_left ⋯];omega
 obtain⟨k,rfl⟩:=Int.eq_ofNat_of_zero_le (Int.not_lt.mp h);rw[QE h,QE h,Xq];omega
theorem nC (lo hi:Option Int) (n:Nat):(sliceBounds lo hi none n).1=((HT.sIx n 0 lo:Nat):Int)/\(sliceBounds lo hi none n).2.1=((HT.sIx n n hi:Nat):Int)/\(sliceBounds lo hi none n).2.2=1:=by
 refine{?_,?_,rfl}
 ·cases lo with
  | none=>simp[sliceBounds,HT.sIx]
  | some i =>
   simp only[sliceBounds,HT.sIx,Option.getD_none,show (1:Int)>0 by decide,if_true];exact zj i n
 cases hi with
 | none=>simp[sliceBounds,HT.sIx]
 | some i =>
 simp only[sliceBounds,HT.sIx,Option.getD_none,show (1:Int)>0 by decide,if_true];exact zj i n
theorem lM (its:List Value) (lo hi:Option Int):slicePick its.toArray lo hi none=((its.drop (HT.sIx its.length 0 lo)).take (HT.sIx its.length its.length hi-HT.sIx its.length 0 lo)).toArray:=by
 obtain⟨h1,h2,h3⟩:=nC lo hi its.toArray.size;unfold slicePick;rw[h1,h2,h3];simp only[sliceRange_one,pick_run,Ql] <;> rfl
def AM (K:PySem.W.Frag):V->Option Int->Option Int->Hp->VK->Prop:=λx lo hi H Q=>∃a xs,x=.ref a/\SqL K H a xs/\∀p,H p=none->Q (.ref p) (upd H p (.lst (fS xs lo hi)))
theorem cq:SlR X (AM X.K):=by
 intro pins s U H x v vl vu lo hi sl Q I rx hs pl pu h;obtain⟨a,xs,rfl,hx,q⟩:=h;cases rx;obtain⟨its,r,ht,hz⟩:=I.list hx;have hlen:=r.length;refine{"list", _,slot_list_getitem.lookup,ht.isList.typeIs,?_};refine wpAny_getItem_list_slice ht.isList hs pl pu .none (by simp) ?_ (by rw[Ql] <;> omega);rw[lM,<-hlen];refine{.ref s.heap.objs.size,_,I.laid (t':=s.toks) (o:=.lst (fS xs lo hi)) (λb ob q=>Qd _ q) (Qh _) ?_,rfl,q _ (I.hok.fresh (Qh _))};exact{QY (ji xs lo hi) hz,_,0,(r.drop (HT.sIx xs.length 0 lo)).take (HT.sIx xs.length xs.length hi-HT.sIx xs.length 0 lo),Qr _ rfl}
def dD:V->Bool
 | .non=>true
 | .bl _=>true
 | .int _=>true
 | .str _=>true
 | _=>false
def eqV:V->V->Bool
 | .non,.non=>true
 | .bl a,.bl b=>a==b
 | .bl a,.int b=>(if a then 1 else 0)==b
 | .int a,.bl b=>a==(if b then 1 else 0)
 | .int a,.int b=>a==b
 | .str a,.str b=>a==b
 | _,_=>false
variable {u v:Value}
theorem xn {A:Around} {y x:V} (ry:aY y u) (rx:aY x v) (fy:dD y=true) (fx:dD x=true):SeqAt.EqAt A s u v (eqV y x):=by
 cases y with
 | non =>
  cases ry
  cases x with
  | non=>cases rx;exact SeqAt.EqAt.same _
  | bl b=>cases rx;exact SeqAt.EqAt.none_bool b
  | int b=>obtain⟨t,rfl⟩:=rx;exact SeqAt.EqAt.none_int b t
  | str b=>obtain⟨t,rfl⟩:=rx;exact SeqAt.EqAt.none_str b t
  | _=>exact absurd (show false=true from fx) Qn
 | bl a =>
  cases ry
  cases x with
  | non=>cases rx;exact SeqAt.EqAt.bool_none a
  | bl b=>cases rx;exact SeqAt.EqAt.bool_bool a b
  | int b=>obtain⟨t,rfl⟩:=rx;exact SeqAt.EqAt.bool_int a b t
  | str b=>obtain⟨t,rfl⟩:=rx;exact SeqAt.EqAt.bool_str a b t
  | _=>exact absurd (show false=true from fx) Qn
 | int a =>
  obtain⟨t',rfl⟩:=ry
  cases x with
  | non=>cases rx;exact SeqAt.EqAt.int_none a t'
  | bl b=>cases rx;exact SeqAt.EqAt.int_bool a t' b
  | int b=>obtain⟨t,rfl⟩:=rx;exact SeqAt.EqAt.int_int a t' b t
  | str b=>obtain⟨t,rfl⟩:=rx;exact SeqAt.EqAt.int_str a t' b t
  | _=>exact absurd (show false=true from fx) Qn
 | str a =>
  obtain⟨t',rfl⟩:=ry
  cases x with
  | non=>cases rx;exact SeqAt.EqAt.str_none a t'
  | bl b=>cases rx;exact SeqAt.EqAt.str_bool a t' b
  | int b=>obtain⟨t,rfl⟩:=rx;exact SeqAt.EqAt.str_int a t' b t
  | str b=>obtain⟨t,rfl⟩:=rx;exact SeqAt.EqAt.str_str a t' b t
  | _=>exact absurd (show false=true from fx) Qn
 | _=>exact absurd (show false=true from fy) Qn
def eqU (x:V) (u:Value):Bool:=match u with
 | .none=>eqV .non x
 | .bool b=>eqV (.bl b) x
 | .int i _=>eqV (.int i) x
 | .str z _=>eqV (.str z) x
 | _=>false
theorem xm {x y:V} (r:aY y u) (f:dD y=true):eqU x u=eqV y x:=by
 cases y with
 | non=>cases r;rfl
 | bl b=>cases r;rfl
 | int i=>obtain⟨t,rfl⟩:=r;rfl
 | str z=>obtain⟨t,rfl⟩:=r;rfl
 | _=>exact absurd (show false=true from f) Qn
theorem oU {x:V}:∀{xs:List V} {us:List Value},ba xs us->xs.all dD=true->us.any (eqU x)=xs.any λy=>eqV y x
 | _,_,.nil,_=>rfl
 | y::xs,u::us,.cons r t,f=>by
  rw[List.all_cons,Xj]at f;rw[List.any_cons,List.any_cons,xm r f.1,oU t f.2]
theorem kK {A:Around} {s:Shared} {x:V} {v:Value} (rx:aY x v) (fx:dD x=true):∀{xs:List V} {us:List Value},ba xs us->xs.all dD=true->∀u∈us,SeqAt.EqAt A s u v (eqU x u)
 | _,_,.nil,_=>λu hu=>by cases hu
 | y::xs,u::us,.cons r t,f=>λu' hu=>by
  rw[List.all_cons,Xj]at f;rcases QP.mp hu with rfl|hu
  ·rw[xm r f.1];exact xn r rx f.1 fx
  exact kK rx fx t f.2 u' hu
def inV (x:V) (xs:List V):Bool:=xs.any λy=>eqV y x
def rIn (K:PySem.W.Frag) (neg:Bool):R2:=λx y H Q=>∃p xs,y=.ref p/\(SqL K H p xs\/SqT K H p xs)/\dD x=true/\xs.all dD=true/\Q (.bl (if neg then !inV x xs else inV x xs)) H
theorem uB:OpR X (compareOp .In) (rIn X.K false):=by
 intro pins s U H x y v u Q I rx ry h;obtain⟨p,xs,rfl,hq,fx,fs,q⟩:=h;cases ry;rcases hq with hq|hq
 ·obtain⟨its,r,pl,hz⟩:=I.list hq;refine SeqAt.in_listAt (eqU x) pl.isList (λw hw=>kK rx fx r fs w (~~~hw)) {.bl _,H,I,rfl,?_};rw[show its.toArray.any (eqU x)=its.any (eqU x) by simp,oU r fs];exact q
 obtain⟨its,r,pl,hz⟩:=I.tuple hq;refine SeqAt.in_tupleAt (eqU x) pl (λw hw=>kK rx fx r fs w (~~~hw)) {.bl _,H,I,rfl,?_};rw[show its.toArray.any (eqU x)=its.any (eqU x) by simp,oU r fs];exact q
theorem aM:d6 X (.builtin "len") (λxs H Q=>∃p ys,xs=[.ref p]/\(SqL X.K H p ys\/SqT X.K H p ys)/\Q (.int ys.length) H):=by
 intro pins s U H xs us Q I r h;obtain⟨p,ys,rfl,hq,q⟩:=h;obtain⟨u,rfl,rx⟩:=d8 r;cases rx;have hn:=iQ;rcases hq with hq|hq
 ·obtain⟨its,r',pl,hz⟩:=I.list hq;have hlen:=r'.length;exact Calls.call_len_list pl.isList (by simp only[Ql] <;> omega) {.int ys.length,H,I.tok _,{s.toks+1,by rw[Ql,hlen]},q}
 obtain⟨its,r',pl,hz⟩:=I.tuple hq;have hlen:=r'.length;exact len_tuple pl (by simp only[Ql] <;> omega) {.int ys.length,H,I.tok _,{s.toks+1,by rw[Ql,hlen]},q}
theorem dA:d6 X (.builtin "len") (λxs H Q=>∃z,xs=[.str z]/\z.length<=sizeLine/\Q (.int z.length) H):=by
 intro pins s U H xs us Q I r h;obtain⟨z,rfl,hz,q⟩:=h;obtain⟨u,rfl,t,rfl⟩:=d8 r;have hn:=iQ;exact len_str ⋯ {.int z.length,H,I.tok _,⟨_,rfl⟩,q}
theorem dy:d6 X (.type "list") (λxs H Q=>∃p ys,xs=[.ref p]/\(SqL X.K H p ys\/SqT X.K H p ys)/\∀l,H l=none->Q (.ref l) (upd H l (.lst ys))):=by
 intro pins s U H xs us Q I r h;obtain⟨p,ys,rfl,hq,q⟩:=h;obtain⟨u,rfl,rx⟩:=d8 r;cases rx
 have fin:∀(its:List Value),ba ys its->ys.length<=sizeLine->∀(h':Heap) (c':Nat),(∀b o',s.heap.get? b=-o'->h'.get? b=-o') ->
   h'.get? s.heap.objs.size=some { cls:=.type "list", dict:=none,data:=.seq its.toArray c',slots:=#[] }->EP X pins U Q (.ref s.heap.objs.size) { s with heap:=h' }:=λits r' hz h' c' kp e =>
  {.ref s.heap.objs.size,_,I.laid (t':=s.toks) kp (Qh _) (show bG X.prog X.w _ h' _ (.lst ys) from⟨hz,its,c',r',e⟩),rfl,q _ (I.hok.fresh (Qh _))}
 rcases hq with hq|hq
 ·obtain⟨its,r',pl,hz⟩:=I.list hq;have hlen:=r'.length;obtain⟨o,ho,hc,n,hd⟩:=pl.isList;exact call_list_seq p (.inl rfl) ho hc hd (λh' c' kp e=>fin its r' hz h' c' kp e) (by simp only[Ql] <;> omega)
 obtain⟨its,r',pl,hz⟩:=I.tuple hq;have hlen:=r'.length;obtain⟨o,ho,hc,n,hd⟩:=pl;exact call_list_seq p (.inr rfl) ho hc hd (λh' c' kp e=>fin its r' hz h' c' kp e) (by simp only[Ql] <;> omega)
def tyV (K:PySem.W.Frag) (T:String) (x:V) (H:Hp):Prop:=match x with
 | .str _=>T = "str"
 | .int _=>T = "int"
 | .ref p=>(T = "list" /\ ∃xs,SqL K H p xs)\/(T = "tuple" /\ ∃o,K.lookup p=-o/\o.cls=.type "tuple" /\ o.dict=none) \/
   (T = "dict" /\ ((∃kvs,H p=-.dK kvs)\/∃kvs,H p=-.dT kvs))\/(T = "set" /\ ∃S n,H p=-.set S n)
 | _=>False
theorem vp {U:St} {H:Hp} {T:String} {x:V} (I:Inv X pins U H s) (r:aY x v) (ty:tyV X.K T x H) :
  s.TypeIs v T/\∀a,v=.ref a->∃ob,s.heap.get? a=-ob/\ob.dict=none:=by
 cases x with
 | str z =>
  obtain⟨t,rfl⟩:=r;cases (show T = "str" from ty);exact{typeIs_str s z t,λ_ e=>nomatch e}
 | int i =>
  obtain⟨t,rfl⟩:=r;cases (show T = "int" from ty);exact{typeIs_int s i t,λ_ e=>nomatch e}
 | ref p =>
  cases r;rcases ty with⟨rfl,xs,hq⟩|⟨rfl,o,hk,hc,hd⟩|⟨rfl,hk⟩|⟨rfl,S,n,hk⟩
  ·obtain⟨its,_,pl,_⟩:=I.list hq;refine{pl.isList.typeIs,λa e=>?_};cases e;obtain⟨o,n,e,c,hd,_⟩:=pl;exact⟨o,e,hd⟩
  ·refine{ {o,I.kIn p o hk,hc},λa e=>?_};cases e;exact{o,I.kIn _ o hk,hd}
  ·have z:∃o,s.heap.get? p=-o/\o.ExactDict:=by
    rcases hk with⟨kvs,hk⟩|⟨kvs,hk⟩
    ·obtain⟨_,_,_,_,o,_,_,e,ex,_⟩:=I.hok p _ hk;exact⟨o,e,ex⟩
    obtain⟨_,_,_,_,o,_,_,e,ex,_⟩:=I.hok p _ hk;exact⟨o,e,ex⟩
   obtain⟨o,e,ex⟩:=z;refine{⟨o,e,ex.1⟩,λa e2=>?_};cases e2;exact⟨o,e,ex.2.1⟩
  obtain⟨o,_,_,_,e,ex,_⟩:=I.hok p _ hk;refine{⟨o,e,ex.1⟩,λa e2=>?_};cases e2;exact⟨o,e,ex.2.1⟩
 | _=>exact False.elim ty
def BV (K:PySem.W.Frag) (T:String) (r:V->List V->Hp->VK->Prop) (to:TE):TE:=λU H Q=>to U H λx H1=>tyV K T x H1/\r x [] H1 Q
def tBM (K:PySem.W.Frag) (T:String) (r:V->List V->Hp->VK->Prop) (to:TE) (t:TA):TE:=λU H Q=>to U H λx H1=>tyV K T x H1/\t U H1 λxs H2=>r x xs H2 Q
variable {o e:Expr} {es:List Expr} {to:TE} {t:TA} {name:Str} {apos cpos:Pos} {T id:String} {r:V->List V->Hp->VK->Prop}
theorem AY (pa:PlainAttrs T) (slot:Slot T name id) (hty:typeOf (.builtin id)=pure (.type "method_descriptor")) (hm:MtR X id r) (ho:PE X o to)
  (hbase:attributeBase o name X.env (eval o X.env)=eval o X.env:=by rfl) (hline:(apos.endLine==cpos.line)=true:=by rfl):PE X (.Call (.Attribute o name apos) [] [] cpos) (BV X.K T r to):=by
 intro pins s U H Q I h;refine wpAny_Call_method0_late hbase hline (thn (ho pins s U H _ I h) λv s1 ⟨x,H1,I1,r1,ty,q1⟩=>?_);obtain⟨h1,h2⟩:=vp I1 r1 ty;exact{T,id,pa,slot,hty,h1,h2,Calls.callWith_builtin rfl (PySem.evalArgs_none (hm pins s1 U H1 x [] v [] Q I1 r1 .nil q1))}
theorem cR (pa:PlainAttrs T) (slot:Slot T name id) (hty:typeOf (.builtin id)=pure (.type "method_descriptor")) (hm:MtR X id r) (ho:PE X o to) (ha:PA X (e::es) t)
  (hbase:attributeBase o name X.env (eval o X.env)=eval o X.env:=by rfl)
  (hfew:((backTo cpos (starEach (e::es) X.env)).all (fun x=>!x.1)&&(backToKw cpos (keywordEach [] X.env)).all (fun x=>x.1.isSome)
   && decide ((e::es).length+([]:List Keyword).length+(if ([]:List Keyword).isEmpty then 0 else 1)<30))=true:=by rfl)
  (hline:(apos.endLine==cpos.line)=true:=by rfl) (hs:starEach (e::es) X.env=(false,eval e X.env)::starEach es X.env:=by rfl) (hplain:(backTo cpos (starEach es X.env)).any (·.1)=false:=by rfl) :
  PE X (.Call (.Attribute o name apos) (e::es) [] cpos) (tBM X.K T r to t):=by
 intro pins s U H Q I h;refine wpAny_Call_method_late hbase hfew hline rfl (thn (ho pins s U H _ I h) λv s1 ⟨x,H1,I1,r1,ty,q1⟩=>?_);obtain⟨h1,h2⟩:=vp I1 r1 ty;refine{T,id,pa,slot,hty,h1,h2,?_};have hA:=ha cpos pins s1 U H1 _ I1 q1;rw[hs]at hA ⊢;refine Calls.callWith_builtin (by show (false || (backTo cpos (starEach es X.env)).any (·.1))=false;rw[hplain] <;> rfl) (Calls.evalArgs_plain ?_);exact thn hA λus s2 ⟨vs,H2,I2,r2,q2⟩=>hm pins s2 U H2 x vs v us Q I2 r1 r2 q2
end
def MtM (X:Cx) (id:String) (r:V->List V->Hp->VK->Prop):Prop :=
 ∀(pins:J5) (s:Shared) (U:St) (H:Hp) (x:V) (xs:List V) (v:Value) (us:List Value) (Q:VK),Inv X pins U H s->aY x v->ba xs us->r x xs H Q ->
  wpAny (model X.prog X.w) X.A (call (.builtin id) (v::us)) (EP X pins U Q) X.xe s
theorem ba.one:∀{x:V} {us:List Value},ba [x] us->∃u,us=[u]/\aY x u
 | _,_,.cons r .nil=>⟨_,rfl,r⟩
theorem ba.zero:∀{us:List Value},ba [] us->us=[]
 | _,.nil=>rfl
theorem ba.dropLast {xs:List V} {us:List Value} (h:ba xs us):ba xs.dropLast us.dropLast:=by
 induction h with
 | nil=>exact .nil
 | cons r t ih =>
 cases t with
 | nil=>exact .nil
 | cons q t'=>exact .cons r ih
theorem ba.reverse {xs:List V} {us:List Value} (h:ba xs us):ba xs.reverse us.reverse:=by
 induction h with
 | nil=>exact .nil
 | cons r t ih=>rw[List.reverse_cons,List.reverse_cons];exact ba.append ih (.cons r .nil)
theorem r_ {α:Type} (l:List α):l.eraseIdx (l.length-1)=l.dropLast:=by
 induction l with
 | nil=>rfl
 | cons a r ih =>
 cases r with
 | nil=>rfl
 | cons b r =>
 have e:(a::b::r).length-1=((b::r).length-1)+1:=by
  have h1:(a::b::r).length=r.length+2:=rfl;have h2:(b::r).length=r.length+1:=rfl;omega
 rw[e,List.eraseIdx_cons_succ,ih]
 all_goals rfl
section
variable {X:Cx} {pins:J5} {U:St} {H:Hp} {s:Shared} {l b:Addr} {xs ys zs:List V}
theorem Inv.lset {its its':List Value} {n:Nat} {f:Array Value->Array Value} {t':Nat} (I:Inv X pins U H s) (hH:H l=-.lst xs)
  (e:s.heap.get? l=some { cls:=.type "list", data:=.seq its.toArray n }) (hf:f its.toArray=its'.toArray) (hv:ba ys its') (hz:ys.length<=sizeLine) :
  Inv X pins U (upd H l (.lst ys)) { s with heap:=s.heap.update l (Obj.mapSeq f),toks:=t' }:=by
 have q:=PySem.IsL.update e f;rw[hf]at q;refine I.write (x:=l) (e:=l) (by rw[hH];exact trivial) (.inl rfl) (λb' u hb hu=>(Q4 s.heap (Obj.mapSeq f) (XJ hb)).trans hu) ⟨_,q⟩ ?_;exact⟨hz,its',_,hv,q⟩
theorem Inv.lnew {its:List Value} {t':Nat} (I:Inv X pins U H s) (hv:ba ys its) (hz:ys.length<=sizeLine) :
  Inv X pins U (upd H s.heap.objs.size (.lst ys)) { s with heap:=s.heap.push { cls:=.type "list", data:=.seq its.toArray },toks:=t' } :=
 I.laid (λ_ _ q=>Qd _ q) (Qh _) {hz,its,0,hv,Qr _ rfl}
theorem Inv.fresh (I:Inv X pins U H s):H s.heap.objs.size=none:=I.hok.fresh (Qh _)
theorem Inv.lstM (I:Inv X pins U H s) (hH:H l=-.lst xs):xs.length<=sizeLine/\∃(its:List Value) (n:Nat),ba xs its/\xs.length=its.length/\s.heap.get? l=some { cls:=.type "list", data:=.seq its.toArray n }:=by
 obtain⟨z,its,n,r,e⟩:=I.hok l _ hH;exact⟨z,its,n,r,r.length,e⟩
end
section
variable {X:Cx}
def nX:V->List V->Hp->VK->Prop:=λx vs H Q=>∃l xs y,x=.ref l/\vs=[y]/\H l=-.lst xs/\xs.length<sizeLine/\Q .non (upd H l (.lst (xs++[y])))
theorem be:MtM X "list.append" nX:=by
 intro pins s U H x vs v us Q I rx rv h;obtain⟨l,xs,y,rfl,rfl,hH,hz,q⟩:=h;cases rx;obtain⟨u,rfl,ru⟩:=rv.one;obtain⟨z,its,n,r,hl,e⟩:=I.lstM hH;refine call_meets F.slot_list_append ⟨_,e,rfl⟩ F.entry_list_append (F.args_list_append_2 _ _) (PySem.list_append l its.toArray n u (by rw[Ql];omega)) {e,?_};refine{.non,_,I.lset (its':=its++[u]) hH e (by simp) (r.append (.cons ru .nil)) ?_,rfl,q};rw[Qk,List.length_singleton];omega
def Gu:V->List V->Hp->VK->Prop:=λx vs H Q=>∃l xs y,x=.ref l/\vs=[]/\H l=-.lst xs/\xs[xs.length-1]?=-y/\Q y (upd H l (.lst xs.dropLast))
theorem Bl:MtM X "list.pop" Gu:=by
 intro pins s U H x vs v us Q I rx rv h;obtain⟨l,xs,y,rfl,rfl,hH,hy,q⟩:=h;cases rx;have hus:=rv.zero;subst hus;obtain⟨z,its,n,r,hl,e⟩:=I.lstM hH;obtain⟨u,hu,ru⟩:=r.get hy
 have hy':its.toArray[its.toArray.size-1]?=-u:=by
  show its.toArray[its.length-1]?=-u;rw[<-QA,<-hl];exact hu
 refine call_meets F.slot_list_pop ⟨_,e,rfl⟩ F.entry_list_pop (F.args_list_pop_1 _) (MeetsSeq.list_pop_last l its.toArray n u hy' (by rw[Ql];omega)) {e,?_};refine{y,_,I.lset (its':=its.dropLast) hH e ?_ r.dropLast ?_,ru,q}
 ·show its.toArray.eraseIdxIfInBounds (its.toArray.size-1)=its.dropLast.toArray;rw[Ql,List.eraseIdxIfInBounds_toArray,r_]
 rw[List.length_dropLast];omega
def xW:R2:=λx y H Q=>∃l b xs zs,x=.ref l/\y=.ref b/\H l=-.lst xs/\H b=-.lst zs/\xs.length+zs.length<=sizeLine/\∀p,H p=none->Q (.ref p) (upd H p (.lst (xs++zs)))
theorem cu:OpR X (binaryOp .Add) xW:=by
 intro pins s U H x y v u Q I rx ry h;obtain⟨l,b,xs,zs,rfl,rfl,hH,hB,hz,q⟩:=h;cases rx;cases ry;obtain⟨z,its,n,r,hl,e⟩:=I.lstM hH;obtain⟨z2,its2,n2,r2,hl2,e2⟩:=I.lstM hB;refine PySem.P.add_list e e2 ?_ (by rw[Ql,Ql];omega);have ea:its.toArray++its2.toArray=(its++its2).toArray:=by simp
 rw[ea];exact{.ref _,_,I.lnew (t':=s.toks) (r.append r2) (by rw[Qk];omega),rfl,q _ I.fresh}
theorem yE {α:Type} (xs:List α) (k:Nat):(List.replicate k xs).flatten.length=k*xs.length:=by
 induction k with
 | zero=>simp
 | succ k ih=>rw[List.replicate_succ,List.flatten_cons,Qk,ih,Nat.succ_mul,Nat.add_comm]
end
section
variable {prog:Program} {w:World} {A:Around} {E:J0} {s:Shared}
end
section
variable {X:Cx}
end
section
variable {κ:Type} [DecidableEq κ]
def bi (kvs:List (κ × V)) (k:κ):Option V:=(kvs.find? λkv=>decide (kv.1=k)).map (·.2)
def ca (kvs:List (κ × V)) (k:κ) (v:V):List (κ × V) :=
 if (kvs.any λkv=>decide (kv.1=k))=true then kvs.map (λkv=>if kv.1=k then (kv.1,v) else kv) else kvs++[(k,v)]
variable {r kvs:List (κ × V)}
theorem bV {p:κ × V} {k:κ} (e:p.1=k):bi (p::r) k=-p.2:=by simp[bi,List.find?_cons,e]
theorem bX {p:κ × V} {k:κ} (e:¬p.1=k):bi (p::r) k=bi r k:=by simp[bi,List.find?_cons,e]
theorem cQ (k:κ):∀kvs:List (κ × V),(kvs.any λkv=>decide (kv.1=k))=(bi kvs k).isSome
 | []=>rfl
 | p::r=>by
  rw[List.any_cons];by_cases e:p.1=k
  ·simp only[bV e,QS e,Bool.true_or,Option.isSome_some]
  rw[bX e,QC e,Bool.false_or];exact cQ k r
theorem pf (k j:κ) (y:V):∀kvs:List (κ × V),bi (kvs.map λkv=>if kv.1=k then (kv.1,y) else kv) j=(bi kvs j).map λx=>if j=k then y else x
 | []=>rfl
 | p::r=>by
  have ih:=pf k j y r;rw[QN];by_cases h:p.1=k
  ·rw[QF h];by_cases e:p.1=j
   ·rw[bV (p:=(p.1,y)) e,bV e,Option.map_some,QF (e.symm.trans h)]
   rw[bX (p:=(p.1,y)) e,bX e,ih]
  rw[QE h];by_cases e:p.1=j
  ·rw[bV (p:=p) e,bV e,Option.map_some,QE (λz=>h (e.trans z))]
  rw[bX (p:=p) e,bX e,ih]
theorem mw (k j:κ) (y:V):∀kvs:List (κ × V),bi kvs k=none->bi (kvs++[(k,y)]) j=if j=k then -y else bi kvs j
 | [],_=>by
  by_cases e:k=j
  ·rw[QF e.symm];exact bV (p:=(k,y)) e
  rw[QE (λz=>e z.symm)];exact bX (p:=(k,y)) e
 | p::r,hn=>by
  rw[List.cons_append];have hk:¬p.1=k:=λz=>by rw[bV z]at hn;cases hn
  rw[bX hk]at hn;have ih:=mw k j y r hn;by_cases e:p.1=j
  ·rw[bV e,bV e,QE (λz=>hk (e.trans z))]
  rw[bX e,bX e,ih]
theorem pd (kvs:List (κ × V)) (k j:κ) (y:V):bi (ca kvs k y) j=if j=k then -y else bi kvs j:=by
 unfold ca;by_cases a:(kvs.any λkv=>decide (kv.1=k))=true
 ·rw[QF a,pf];rw[cQ]at a;by_cases e:j=k
  ·obtain⟨x,hx⟩:=Option.isSome_iff_exists.mp a;rw[QF e,e,hx,Option.map_some,QF rfl]
  rw[QE e]
  cases bi kvs j with
  | none=>rfl
  | some x=>rw[Option.map_some,QE e]
 rw[QE a];refine mw k j y kvs ?_;rw[cQ]at a
 cases q:bi kvs k with
 | none=>rfl
 | some x=>rw[q]at a;exact(a rfl).elim
theorem eZ (kvs:List (κ × V)) (k:κ) (v:V):(ca kvs k v).length<=kvs.length+1:=by
 unfold ca
 split
 ·rw[Qa];omega
 rw[Qk,QT,List.length_nil];omega
theorem dY {k:κ} (v:V) (h:bi kvs k=none):ca kvs k v=kvs++[(k,v)]:=by
 unfold ca;rw[cQ,h];exact QE (by decide)
theorem lI.isSome_eq {o:Option V} {u:Option Value} (r:lI o u):o.isSome=u.isSome:=by
 cases o with
 | none=>cases u with
  | none=>rfl
  | some _=>exact(show False from r).elim
 | some _=>cases u with
  | none=>exact(show False from r).elim
  | some _=>rfl
variable {vs:List (κ × Value)}
theorem KV.val (r:KV kvs vs) (k:κ):lI (bi kvs k) (valueAt vs k):=by
 unfold KV at r
 induction r with
 | nil=>exact True.intro
 | @cons p q ps qs h t ih =>
 obtain⟨h1,h2⟩:=h;by_cases e:p.1=k
 ·have e':q.1=k:=h1.symm.trans e;have b:valueAt (q::qs) k=-q.2:=by simp[valueAt,List.find?_cons,e']
  rw[bV e,b];exact h2
 have e':¬q.1=k:=λz=>e (h1.trans z);have b:valueAt (q::qs) k=valueAt qs k:=by simp[valueAt,List.find?_cons,e']
 rw[bX e,b];exact ih
theorem KV.any (r:KV kvs vs) (k:κ):(kvs.any λkv=>decide (kv.1=k))=vs.any λkv=>decide (kv.1=k):=by
 unfold KV at r
 induction r with
 | nil=>rfl
 | cons h t ih=>rw[List.any_cons,List.any_cons,ih,h.1]
theorem KV.repl (r:KV kvs vs) (k:κ) {y:V} {u:Value} (ry:aY y u) :
  KV (kvs.map λkv=>if kv.1=k then (kv.1,y) else kv) (vs.map λkv=>if kv.1=k then (kv.1,u) else kv):=by
 unfold KV at r ⊢
 induction r with
 | nil=>exact .nil
 | @cons p q ps qs h t ih =>
 rw[QN,QN];refine .cons ?_ ih;obtain⟨h1,h2⟩:=h;by_cases e:p.1=k
 ·rw[QF e,QF (h1.symm.trans e)];exact⟨h1,ry⟩
 rw[QE e,QE (λz=>e (h1.trans z))];exact⟨h1,h2⟩
theorem KV.put (r:KV kvs vs) (k:κ) {y:V} {u:Value} (ry:aY y u):KV (ca kvs k y) (stored vs k u):=by
 unfold ca stored;rw[r.any k];by_cases e:(vs.any λkv=>decide (kv.1=k))=true
 ·rw[QF e,QF e];exact r.repl k ry
 rw[QE e,QE e];exact Paired.snoc r ⟨rfl,ry⟩
theorem KV.length (r:KV kvs vs):kvs.length=vs.length:=Paired.length r
end
variable {u:Value} {w:World} {P prog:Program}
theorem mN {k:Key} (r:aY (kV k) u):(bq P w).is k u=true:=by
 cases k with
 | inl i=>obtain⟨t,e⟩:=(show ∃t,u=Value.int i t from r);subst e;exact qt P w i t
 | inr x=>obtain⟨t,e⟩:=(show ∃t,u=Value.str x t from r);subst e;exact gc P w x t
theorem mO {P:Program} {w:World}:∀{ks:List Key} {us:List Value},ba (ks.map kV) us->ItemsAre (bq P w) ks us
 | [],_,r=>by rw[List.map_nil]at r;cases r;exact .nil
 | k::ks,_,r=>by
  rw[QN]at r
  cases r with
  | cons h t=>exact .cons (mN h) (mO t)
abbrev KT (H:Hp):List (List Key × V)->List (List Key × Addr × Value)->Prop:=Paired λp q=>p.1=q.1/\H q.2.1=-.tup (p.1.map kV)/\aY p.2 q.2.2
variable {xs:List (List Key × Addr × Value)} {kvs:List (List Key × V)} {H H':Hp}
theorem KT.val (r:KT H kvs xs) (k:List Key):lI (bi kvs k) ((atKey xs k).map (·.2)):=by
 induction r with
 | nil=>exact True.intro
 | @cons p q ps qs h t ih =>
 obtain⟨h1,_,h2⟩:=h;by_cases e:p.1=k
 ·have e':q.1=k:=h1.symm.trans e;have b:atKey (q::qs) k=-q.2:=by simp[atKey,List.find?_cons,e']
  rw[bV e,b];exact h2
 have e':¬q.1=k:=λz=>e (h1.trans z);have b:atKey (q::qs) k=atKey qs k:=by simp[atKey,List.find?_cons,e']
 rw[bX e,b];exact ih
theorem KT.repl (r:KT H kvs xs) (k:List Key) {y:V} (ry:aY y u) :
  KT H (kvs.map λkv=>if kv.1=k then (kv.1,y) else kv) (xs.map (putAt k u)):=by
 induction r with
 | nil=>exact .nil
 | @cons p q ps qs h t ih =>
 rw[QN,QN];refine .cons ?_ ih;obtain⟨h1,h2,h3⟩:=h;unfold putAt;by_cases e:p.1=k
 ·rw[QF e,QF (h1.symm.trans e)];exact⟨h1,h2,ry⟩
 rw[QE e,QE (λz=>e (h1.trans z))];exact⟨h1,h2,h3⟩
theorem KT.put (r:KT H kvs xs) (k:List Key) {b:Addr} {y:V} (hb:H b=-.tup (k.map kV)) (ry:aY y u) :
  KT H (ca kvs k y) (storedH xs k b u):=by
 have e:(kvs.any λkv=>decide (kv.1=k))=(atKey xs k).isSome:=by
  rw[cQ,(r.val k).isSome_eq,Option.isSome_map]
 unfold ca storedH;rw[e];by_cases q:(atKey xs k).isSome=true
 ·rw[QF q,QF q];exact r.repl k ry
 rw[QE q,QE q];exact Paired.snoc r ⟨rfl,hb,ry⟩
theorem KT.keeps (r:KT H kvs xs) (ht:∀b ys,H b=-.tup ys->H' b=-.tup ys):KT H' kvs xs :=
 Paired.mapP r λ_ _ z=>{z.1,ht _ _ z.2.1,z.2.2}
section
variable {P:Program} {w:World} {H:Hp} {h:Heap} {a:Addr}
theorem zn {u:HO} (ok:HOk P w H h) (e:Rd H a u):bG P w H h a u:=e.ok ok
theorem jh {kvs:List (Key × V)} (ok:HOk P w H h) (e:Rd H a (.dK kvs)):kvs.length<=sizeLine/\(a==sysModules)=false/\∃vs,KV kvs vs/\h.DictOf (bq P w) a vs :=
 show bG P w H h a (.dK kvs) from zn ok e
theorem mT {kvs:List (Key × V)} (ok:HOk P w H h) (e:H a=-.dK kvs):kvs.length<=sizeLine/\(a==sysModules)=false/\∃vs,KV kvs vs/\h.DictOf (bq P w) a vs:=jh ok (.inl e)
theorem kP {ks:List Key} (ok:HOk P w H h) (e:H a=-.tup (ks.map kV)):(tupleKind (bq P w)).is h ks a:=by
 obtain⟨_,its,r,o,h1,h2,n,h3⟩:=(show bG P w H h a (.tup (ks.map kV)) from ok a _ e);exact{o,its.toArray,n,h1,h2,h3,~~~(mO r)}
variable {kvs:List (List Key × V)}
theorem qI (ok:HOk P w H h) (e:Rd H a (.dT kvs)):kvs.length<=sizeLine/\(a==sysModules)=false /\
  ∃xs,KT H kvs xs/\h.DictOfH (tupleKind (bq P w)) a xs:=by
 obtain⟨z,y,xs,r,o,es,ep,h1,h2,h3,h4,h5⟩:=(show bG P w H h a (.dT kvs) from zn ok e);refine{z,y,xs,r,o,es,ep,h1,h2,h3,h4,λx hx=>?_,h5}
 have all:∀{l:List (List Key × V)} {m:List (List Key × Addr × Value)},KT H l m->∀x∈m,(tupleKind (bq P w)).is h x.1 x.2.1:=by
  intro l m q
  induction q with
  | nil=>intro x hx;exact nomatch hx
  | @cons p q ps qs hq t ih =>
  intro x hx;rcases QP.mp hx with e|hx
  ·subst e;exact kP ok (by rw[<-hq.1];exact hq.2.1)
  exact ih x hx
 exact all r x hx
theorem Gd (ok:HOk P w H h) (e:H a=-.dT kvs):kvs.length<=sizeLine/\(a==sysModules)=false /\
  ∃xs,KT H kvs xs/\h.DictOfH (tupleKind (bq P w)) a xs:=qI ok (.inl e)
end
def cO (H:Hp) (a:Addr) (y:V) (r:Option V):Prop :=
 (∃kvs k,Rd H a (.dK kvs)/\y=kV k/\r=bi kvs k)\/∃kvs k b,Rd H a (.dT kvs)/\y=.ref b/\H b=-.tup (k.map kV)/\r=bi kvs k
def iC (H:Hp) (a:Addr) (y v:V) (H':Hp):Prop :=
 (∃kvs k,H a=-.dK kvs/\y=kV k/\kvs.length<sizeLine/\H'=upd H a (.dK (ca kvs k v))) \/
 ∃kvs k b,H a=-.dT kvs/\y=.ref b/\H b=-.tup (k.map kV)/\kvs.length<sizeLine/\H'=upd H a (.dT (ca kvs k v))
theorem cO.k {H:Hp} {a:Addr} {kvs:List (Key × V)} {k:Key} (e:H a=-.dK kvs):cO H a (kV k) (bi kvs k):=.inl {kvs,k,.inl e,rfl,rfl}
theorem iC.k {H:Hp} {a:Addr} {kvs:List (Key × V)} {k:Key} {v:V} (e:H a=-.dK kvs) (hl:kvs.length<sizeLine):iC H a (kV k) v (upd H a (.dK (ca kvs k v))):=.inl ⟨kvs,k,e,rfl,hl,rfl⟩
section
variable {X:Cx} {pins:J5} {U:St} {H:Hp} {s:Shared} {a:Addr} {y v:V} {u r:Value} {o:Option V} {A:Around} {E:J0}
theorem Inv.big (I:Inv X pins U H s):sysModules<s.heap.objs.size:=by
 have h:mainGlobals<s.heap.objs.size:=(I.mod.glob.keeps I.bk).lt;exact Nat.lt_trans (by decide) h
variable {Q:J0}
theorem mW (hu:A.units+1<cLine) (I:Inv X pins U H s) (g:cO H a y (-v)) (ry:aY y u) (h:∀w' s',Inv X pins U H s'->aY v w'->Q w' s') :
  wpAny (model X.prog X.w) A (getItem (.ref a) u) Q E s:=by
 rcases g with⟨kvs,k,e,ey,l⟩|⟨kvs,k,b,e,ey,eb,l⟩
 ·subst ey;obtain⟨z,hd,vs,rel,dd⟩:=jh I.hok e;obtain⟨w',hw,rw'⟩:=lI.some_of (v:=v) (o:=valueAt vs k) (by rw[l];exact rel.val k);exact wpAny_getItem_of (mN ry) dd.mapOf hw (h w' _ (I.tok _) rw')
 subst ey;cases (show u=Value.ref b from ry);obtain⟨z,hd,xs,rel,dd⟩:=qI I.hok e;obtain⟨w',hw,rw'⟩:=lI.some_of (v:=v) (o:=(atKey xs k).map (·.2)) (by rw[l];exact rel.val k);obtain⟨p,hp,hp2⟩:=Option.map_eq_some_iff.mp hw;refine wpAny_getItem_heap (tupleKind_room_in1 hu) (kP I.hok eb) dd hp ?_;rw[hp2];exact h w' _ (I.tok _) rw'
theorem I_ (hu:A.units+1<cLine) (I:Inv X pins U H s) (g:cO H a y o) (ry:aY y u) (h:∀s',Inv X pins U H s'->Q (.bool o.isSome) s') :
  wpAny (model X.prog X.w) A (compareOp .In u (.ref a)) Q E s:=by
 rcases g with⟨kvs,k,e,ey,l⟩|⟨kvs,k,b,e,ey,eb,l⟩
 ·subst ey;obtain⟨z,hd,vs,rel,dd⟩:=jh I.hok e;refine wpAny_in_of (mN ry) hd dd.mapOf ?_;rw[<-(rel.val k).isSome_eq,<-l];exact h _ (I.tok _)
 subst ey;cases (show u=Value.ref b from ry);obtain⟨z,hd,xs,rel,dd⟩:=qI I.hok e;refine wpAny_in_heap (tupleKind_room_in1 hu) (kP I.hok eb) hd dd ?_;have q:=(rel.val k).isSome_eq;rw[Option.isSome_map]at q;rw[<-q,<-l];exact h _ (I.tok _)
theorem yO (hu:A.units+1<cLine) (I:Inv X pins U H s) (g:cO H a y o) (ry:aY y u) (h:∀s',Inv X pins U H s'->Q (.bool (!o.isSome)) s') :
  wpAny (model X.prog X.w) A (compareOp .NotIn u (.ref a)) Q E s:=by
 rcases g with⟨kvs,k,e,ey,l⟩|⟨kvs,k,b,e,ey,eb,l⟩
 ·subst ey;obtain⟨z,hd,vs,rel,dd⟩:=jh I.hok e;refine wpAny_notIn_of (mN ry) hd dd.mapOf ?_;rw[<-(rel.val k).isSome_eq,<-l];exact h _ (I.tok _)
 subst ey;cases (show u=Value.ref b from ry);obtain⟨z,hd,xs,rel,dd⟩:=qI I.hok e;refine wpAny_notIn_heap (tupleKind_room_in1 hu) (kP I.hok eb) hd dd ?_;have q:=(rel.val k).isSome_eq;rw[Option.isSome_map]at q;rw[<-q,<-l];exact h _ (I.tok _)
theorem oE {h':Heap} {t':Nat} {ob:HO} (I:Inv X pins U H s) (mu:Mut (H a)) (hs:Heap.SameBut a s.heap h') (he:∃q,h'.get? a=-q) (new:bG X.prog X.w (upd H a ob) h' a ob) :
  Inv X pins U (upd H a ob) { s with heap:=h',toks:=t' } :=
 I.write (x:=a) (e:=a) mu (.inl rfl) (λb q hb z=>(hs.2 b hb).trans z) he new
theorem xo {P:Program} {w:World} {H':Hp} {h':Heap} {kvs:List (Key × V)} {vs:List (Key × Value)} (z:kvs.length<=sizeLine) (hd:(a==sysModules)=false) (rel:KV kvs vs) (dd:h'.DictOf (bq P w) a vs) :
  bG P w H' h' a (.dK kvs):=⟨z,hd,vs,rel,dd⟩
theorem mV {H':Hp} {Q:Unit->Shared->Prop} (hu:A.units+1<cLine) (I:Inv X pins U H s) (g:iC H a y v H') (ry:aY y u) (rv:aY v r) (h:∀s',Inv X pins U H' s'->Q () s') :
  wpAny (model X.prog X.w) A (setItem (.ref a) u r) Q E s:=by
 rcases g with⟨kvs,k,e,ey,l,eH⟩|⟨kvs,k,b,e,ey,eb,l,eH⟩
 ·subst ey eH;obtain⟨z,hd,vs,rel,dd⟩:=mT I.hok e;have hz:vs.length<=sizeLine:=by rw[<-rel.length];exact z
  have hl:(ca kvs k v).length<=sizeLine:=by have:=eZ kvs k v;omega
  refine wpAny_setItem_pairs (hsz:=hz) (mN ry) dd λh' dd' hs=>h _ ?_;have he:∃q,h'.get? a=-q:=let ⟨q,_,_,hq,_⟩:=dd';⟨q,hq⟩;exact oE I (by rw[e];exact True.intro) hs he (xo hl hd (rel.put k rv) dd')
 subst ey eH;cases (show u=Value.ref b from ry);obtain⟨z,hd,xs,rel,dd⟩:=Gd I.hok e;have hz:xs.length<=sizeLine:=by rw[<-Paired.length rel];exact z
 have hl:(ca kvs k v).length<=sizeLine:=by have:=eZ kvs k v;omega
 refine wpAny_setItem_heap (hsz:=hz) (tupleKind_room_in1 hu) (kP I.hok eb) dd λh' dd' hs=>h _ ?_;obtain⟨q,es,ep,hq,h2,h3,h4,_,h5⟩:=dd';refine oE I (by rw[e];exact True.intro) hs ⟨q,hq⟩ {hl,hd,_,(rel.put k eb rv).keeps λc ys ec=>?_,q,es,ep,hq,h2,h3,h4,h5};rw[am (FU ec e (λz=>nomatch z))];exact ec
end
section
variable {X:Cx} {pins:J5} {U:St} {H:Hp} {s:Shared} {a:Addr} {kvs:List (Key × V)} {k:Key} {u:Value} {A:Around} {E:J0}
theorem Ge {Q:J0} (I:Inv X pins U H s) (e:Rd H a (.dK kvs)) (h:∀t s',Inv X pins U H s'->Q (.int kvs.length t) s'):wpAny (model X.prog X.w) A (call (.builtin "len") [.ref a]) Q E s:=by
 obtain⟨z,hd,vs,rel,dd⟩:=jh I.hok e;refine call_len_dict hd dd (by rw[<-rel.length];rw[XC]at z;omega) ?_;rw[<-rel.length];exact h _ _ (I.tok _)
end
def Gk (i:Expr):Prop:=∀ov iv,subscripted i false ov iv=operate [ov,iv] (getItem ov iv)
variable {Q E:J0} {pos:Pos}
theorem xR {A:Around} {s:Shared} {env:Env} {value slice:Expr} {T id:String}
  (hl:typeLookup (.type T) "__getitem__" = pure (-.builtin id)) (hs:Gk slice)
  (h:wpAny (model prog w) A (eval value env) (λo s₁=>wpAny (model prog w) A (eval slice env) (λi s₂=>s₂.TypeIs o T/\wpAny (model prog w) A (getItem o i) Q E s₂) E s₁) E s) :
  wpAny (model prog w) A (eval (.Subscript value slice pos) env) Q E s:=by
 refine Subscript_ (Xr h (λo s₁ h₁=>Xr h₁ (λi s₂ h₂=>?_) λ_ _ x=>x) λ_ _ x=>x);obtain⟨hT,h₂⟩:=h₂;unfold subscriptTail;refine Qb ?_;rw[getitemInPython_of_ne hT.not_modules];refine Qb (wpAny_specialOf hT hl ?_)
 have fin:wpAny (model prog w) A (subscripted slice false o i) (λr s₃=>wpAny (model prog w) A (letTemporaryGo value o r >>= λ_=>pure r) Q E s₃) E s₂:=by
  rw[hs o i];exact wpAny_operating (Xr h₂ (λr s₃ h₃=>Qb (wpAny_letTemporaryGo (Qf h₃))) λ_ _ x=>x)
 first
  | exact Qf (Qb fin)
  | exact Qb (Qf (Qb fin))
  | exact Qb fin
variable {X:Cx}
theorem qK {pins:J5} {U:St} {s:Shared} {a:Addr} {y:V} {o:Option V} (I:Inv X pins U H s) (g:cO H a y o):s.TypeIs (.ref a) "dict" := by
 rcases g with⟨kvs,k,e,_,_⟩|⟨kvs,k,b,e,_,_,_⟩
 ·obtain⟨_,_,vs,_,dd⟩:=jh I.hok e;exact dd.typeIs
 obtain⟨_,_,xs,_,dd⟩:=qI I.hok e;exact dd.typeIs
def ze (td ty:TE):TE:=λU H Q=>td U H λx H1=>ty U H1 λy H2=>∃a v,x=.ref a/\cO H2 a y (-v)/\Q v H2
def BU (ty td:TE):TE:=λU H Q=>ty U H λy H1=>td U H1 λx H2=>∃a o,x=.ref a/\cO H2 a y o/\Q (.bl o.isSome) H2
def sK (ty td:TE):TE:=λU H Q=>ty U H λy H1=>td U H1 λx H2=>∃a o,x=.ref a/\cO H2 a y o/\Q (.bl (!o.isSome)) H2
def zk (td ty tv:TE):TS:=λD U H=>tv U H λv H1=>td U H1 λx H2=>ty U H2 λy H3=>∃a H4,x=.ref a/\iC H3 a y v H4/\D.nx U H4
def zm (td ty tv:TE) (rd:V->V->Hp->VK->Prop):TS:=λD U H=>td U H λx H1=>ty U H1 λy H2=>∃a v,x=.ref a/\cO H2 a y (-v) /\
 tv U H2 λy2 H3=>rd v y2 H3 λz H4=>∃H5,iC H4 a y z H5/\D.nx U H5
section
variable {X:Cx} {o i e value:Expr} {pos pos' tpos:Pos} {td ty tv:TE}
theorem bC (hu:X.A.units+1<cLine) (ho:PE X o td) (hi:PE X i ty) (hs:Gk i:=by exact λ_ _=>rfl):PE X (.Subscript o i pos) (ze td ty):=by
 intro pins s U H Q I h;refine xR PySem.F.slot_dict_getitem.lookup hs (thn (ho pins s U H _ I h) λu s1 ⟨x,H1,I1,rx,q1⟩=>thn (hi pins s1 U H1 _ I1 q1) λiv s2 ⟨y,H2,I2,ry,a,v,ex,g,q2⟩=>?_);subst ex;obtain rfl:u=Value.ref a:=rx;exact{qK I2 g,mW hu I2 g ry λw' s3 I3 rw'=>⟨v,H2,I3,rw',q2⟩}
theorem AZ (hu:X.A.units+1<cLine) (hi:PE X i ty) (ho:PE X o td):PC X .In i o (BU ty td):=by
 intro pins s U H Q I h;refine thn (hi pins s U H _ I h) λiv s1 ⟨y,H1,I1,ry,q1⟩=>thn (ho pins s1 U H1 _ I1 q1) λu s2 ⟨x,H2,I2,rx,a,ov,ex,g,q2⟩=>?_;subst ex;obtain rfl:u=Value.ref a:=rx;exact I_ hu I2 g ry λs3 I3=>{.bl ov.isSome,H2,I3,rfl,q2}
theorem dJ (hu:X.A.units+1<cLine) (hi:PE X i ty) (ho:PE X o td):PC X .NotIn i o (sK ty td):=by
 intro pins s U H Q I h;refine thn (hi pins s U H _ I h) λiv s1 ⟨y,H1,I1,ry,q1⟩=>thn (ho pins s1 U H1 _ I1 q1) λu s2 ⟨x,H2,I2,rx,a,ov,ex,g,q2⟩=>?_;subst ex;obtain rfl:u=Value.ref a:=rx;exact yO hu I2 g ry λs3 I3=>{.bl (!ov.isSome),H2,I3,rfl,q2}
theorem gx (hu:X.A.units+1<cLine) (ho:PE X o td) (hi:PE X i ty) (hv:PE X value tv) (hs:swapsWith value (-.Subscript o i pos') pos.line X.env=pure false) :
  PS X (.Assign [.Subscript o i pos'] value pos) (zk td ty tv):=by
 intro pins s U H D I h;refine wpAny_Assign_Subscript (thn (hv pins s U H _ I h) λr s1 ⟨v,H1,I1,rv,q1⟩=>thn (ho pins s1 U H1 _ I1 q1) λu s2 ⟨x,H2,I2,rx,q2⟩=>thn (hi pins s2 U H2 _ I2 q2) λiv s3 ⟨y,H3,I3,ry,a,H4,ex,g,q3⟩=>?_) hs;subst ex;obtain rfl:u=Value.ref a:=rx;exact mV hu I3 g ry rv λs4 I4=>⟨U,H4,I4,q3⟩
theorem xX {op:Operator} {rd:V->V->Hp->VK->Prop} (hu:X.A.units+1<cLine) (ho:PE X o td) (hi:PE X i ty) (hv:PE X value tv) (hop:Gm X op rd)
  (ha:∀ov iv new,augStore i ov iv new=(do holding [new,ov,iv] (setItem ov iv new);release [new,ov,iv] [];pure .next)):PS X (.AugAssign (.Subscript o i tpos) op value pos) (zm td ty tv rd):=by
 intro pins s U H D I h;refine wpAny_AugAssign_SubscriptAny (thn (ho pins s U H _ I h) λu s1 ⟨x,H1,I1,rx,q1⟩=>thn (hi pins s1 U H1 _ I1 q1) λiv s2 ⟨y,H2,I2,ry,a,v,ex,g,q2⟩=>?_) ha;subst ex;obtain rfl:u=Value.ref a:=rx;refine mW hu I2 g ry λw' s3 I3 rw'=>thn (hv pins s3 U H2 _ I3 q2) λw2 s4 ⟨y2,H3,I4,ry2,q3⟩=>thn (hop pins s4 U H3 v y2 w' w2 _ I4 rw' ry2 q3) λw3 s5 ⟨z,H4,I5,rz,H5,g5,q4⟩=>?_;exact mV hu I5 g5 ry rz λs6 I6=>⟨U,H5,I6,q4⟩
end
theorem qJ (h:Heap) (hb:sysModules<h.objs.size):bG P w H (h.push { cls:=.type "dict", data:=.dict #[] }) h.objs.size (.dK []) :=
 {QB _,beq_eq_false_iff_ne.mpr (XJ (Qz hb)),[],.nil,Heap.DictOf.new h}
def AB:TE:=λ_ H Q=>∀p,H p=none->Q (.ref p) (upd H p (.dK []))
section
variable {X:Cx} {pos:Pos}
theorem im:PE X (.Dict [] [] pos) AB:=λpins s U H Q I h =>
 wpAny_Dict_empty {.ref s.heap.objs.size,_,I.laid (a:=s.heap.objs.size) (o:=.dK []) (t':=s.toks) (λ_ _ q=>Qd _ q) (Qh _) (qJ s.heap I.big),rfl,h _ (I.hok.fresh (Qh _))}
end
def qX:List (TE × TE)->St->Hp->(List (V × V)->Hp->Prop)->Prop
 | [],_,H,Q=>Q [] H
 | (tk,tv)::r,U,H,Q=>tk U H λx H1=>tv U H1 λy H2=>qX r U H2 λps H3=>Q ((x,y)::ps) H3
abbrev VV:List (V × V)->List (Value × Value)->Prop:=Paired λp q=>aY p.1 q.1/\aY p.2 q.2
def PPs (X:Cx) (pos:Pos) (keys:List (Option Expr)) (values:List Expr) (trs:List (TE × TE)):Prop :=
 ∀(pins:J5) (s:Shared) (U:St) (H:Hp) (Q:List (V × V)->Hp->Prop),Inv X pins U H s->qX trs U H Q ->
  wpAny (model X.prog X.w) X.A (evalPairs (pairTrees keys values X.env pos)) (λvs s'=>∃ps H',Inv X pins U H' s'/\VV ps vs/\Q ps H') X.xe s
theorem xY:PPs X pos [] [] []:=λpins s U H Q I h=>pairTrees_nil_walk {[],H,I,.nil,h}
variable {trs:List (TE × TE)}
theorem v0 {k v:Expr} {ks:List (Option Expr)} {vs:List Expr} {tk tv:TE} (hk:PE X k tk) (hv:PE X v tv) (hr:PPs X pos ks vs trs) :
  PPs X pos (-k::ks) (v::vs) ((tk,tv)::trs):=λpins s U H Q I h =>
 pairTrees_cons_walk (thn (hk pins s U H _ I h) λu s1 ⟨x,H1,I1,rx,q1⟩=>thn (hv pins s1 U H1 _ I1 q1) λw2 s2 ⟨y,H2,I2,ry,q2⟩ =>
  thn (hr pins s2 U H2 _ I2 q2) λws s3 ⟨ps,H3,I3,rel,q3⟩=>{(x,y)::ps,H3,I3,.cons ⟨rx,ry⟩ rel,q3})
def kJ (kvs more:List (Key × V)):List (Key × V):=more.foldl (λacc kv=>ca acc kv.1 kv.2) kvs
theorem KV.merge:∀{more:List (Key × V)} {rs:List (Key × Value)} {kvs:List (Key × V)} {vs:List (Key × Value)},KV more rs->KV kvs vs->KV (kJ kvs more) (merged vs rs):=by
 intro more rs kvs vs r;unfold KV at r
 induction r generalizing kvs vs with
 | nil=>intro q;exact q
 | @cons p q ps qs h t ih =>
 intro r0
 have e:KV (ca kvs p.1 p.2) (stored vs q.1 q.2):=by
  have:=r0.put p.1 h.2;rw[<-h.1];exact this
 exact ih e
theorem gJ:∀(more kvs:List (Key × V)),(kJ kvs more).length<=kvs.length+more.length
 | [],kvs=>by show kvs.length<=kvs.length+0;omega
 | p::r,kvs=>by
  have h1:=gJ r (ca kvs p.1 p.2);have h2:=eZ kvs p.1 p.2;show (kJ (ca kvs p.1 p.2) r).length<=_;rw[QT];omega
theorem lh {P:Program} {w:World}:∀{kvs:List (Key × V)} {ws:List (Value × Value)},VV (kvs.map λkv=>(kV kv.1,kv.2)) ws->∃rs,Carries (bq P w) ws rs/\KV kvs rs
 | [],_,r=>by rw[List.map_nil]at r;cases r;exact{[],True.intro,.nil}
 | p::kvs,_,r=>by
  rw[QN]at r
  cases r with
  | @cons a b as bs h t =>
  obtain⟨rs,c,q⟩:=lh (P:=P) (w:=w) t;obtain⟨b1,b2⟩:=b;exact{(p.1,b2)::rs,{mN h.1,rfl,c},.cons ⟨rfl,h.2⟩ q}
def BT (trs:List (TE × TE)):TE:=λU H Q=>∀p,H p=none->qX trs U (upd H p (.dK [])) λps H2=>H2 p=-.dK []/\∃kvs:List (Key × V),ps=kvs.map (λkv=>(kV kv.1,kv.2))/\kvs.length<=15/\Q (.ref p) (upd H2 p (.dK (kJ [] kvs)))
theorem yb {keys:List (Option Expr)} {values:List Expr} (h:PPs X pos keys values trs) (hall:keys.all (·.isSome)=true) (hl:keys.length=values.length) (h0:keys≠[])
  (h15:keys.length<=15):PE X (.Dict keys values pos) (BT trs):=by
 intro pins s U H Q I q;have hn:=I.hok.fresh (Qh s.heap.objs.size);have I1:=I.laid (a:=s.heap.objs.size) (o:=.dK []) (h':=s.heap.push { cls:=.type "dict", data:=.dict #[] }) (t':=s.toks) (λ_ _ q=>Qd _ q) (Qh _) (qJ s.heap I.big);refine wpAny_Dict_walk (knd:=bq X.prog X.w) hall hl h0 h15 (thn (h pins _ U _ _ I1 (q _ hn)) λws s2 ⟨ps,H2,I2,rel,e,kvs,ep,lk,q2⟩=>?_);subst ep;obtain⟨rs,c,rk⟩:=lh (P:=X.prog) (w:=X.w) rel;obtain⟨z,hd,vs0,r0,dd⟩:=mT I2.hok e;cases r0;refine{rs,c,dd,λh' dd' hs=>{.ref s.heap.objs.size,_,?_,rfl,q2} }
 have hz:(kJ [] kvs).length<=sizeLine:=by
  have h1:=gJ kvs [];rw[List.length_nil]at h1;rw[XC];omega
 have he:∃q,h'.get? s.heap.objs.size=-q:=let ⟨q,_,_,hq,_⟩:=dd';⟨q,hq⟩;exact oE I2 (by rw[e];exact True.intro) hs he (xo hz hd (rk.merge .nil) dd')
structure M1 (X:Cx) (o:Expr) (m:Str) (apos:Pos) (e:Expr) (cpos:Pos):Prop where
 base:attributeBase o m X.env (eval o X.env)=eval o X.env
 few:((backTo cpos (starEach [e] X.env)).all (λx=>!x.1)&&(backToKw cpos (keywordEach [] X.env)).all (λx=>x.1.isSome)
  && decide (([e]:List Expr).length+([]:List Keyword).length+(if ([]:List Keyword).isEmpty then 0 else 1)<30))=true
 line:(apos.endLine==cpos.line)=true
 trees:backTo cpos (starEach [e] X.env)=[(false,eval e X.env)]
structure M2 (X:Cx) (o:Expr) (m:Str) (apos:Pos) (e f:Expr) (cpos:Pos):Prop where
 base:attributeBase o m X.env (eval o X.env)=eval o X.env
 few:((backTo cpos (starEach [e,f] X.env)).all (λx=>!x.1)&&(backToKw cpos (keywordEach [] X.env)).all (λx=>x.1.isSome)
  && decide (([e,f]:List Expr).length+([]:List Keyword).length+(if ([]:List Keyword).isEmpty then 0 else 1)<30))=true
 line:(apos.endLine==cpos.line)=true
 trees:backTo cpos (starEach [e,f] X.env)=[(false,eval e X.env),(false,eval f X.env)]
section
variable {X:Cx} {pins:J5} {U:St} {H:Hp} {s:Shared} {a:Addr} {y d:V} {u r:Value} {o:Option V} {A:Around} {E:J0}
end
section
variable {X:Cx} {o e f:Expr} {apos cpos:Pos} {td ty tx:TE}
end
section
variable {X:Cx} {pins:J5} {U:St} {H:Hp} {s:Shared} {a:Addr} {kvs:List (Key × V)} {A:Around} {E:J0}
end
section
variable {X:Cx} {pins:J5} {U:St} {H:Hp} {s:Shared} {a:Addr} {y:V} {u:Value} {A:Around} {E:J0}
end
end L2
namespace Att
open PySem PySem.W PySem.Calls PyProof.Rows
theorem ju {P:Params} {h:Heap}:∀(ns:List Int) (vs:List Value),WellAll P h vs (ns.map WData.int)->IntsAre vs ns:=by
 intro ns
 induction ns with
 | nil =>
  intro vs w;rw[List.map_nil]at w;cases w;exact .nil
 | cons n ns ih =>
 intro vs w;rw[QN]at w
 cases w with
 | cons a b =>
 cases a;exact .cons _ _ (ih _ b)
theorem uo {l:OpenLaw} {n:Nat} (hn:l.most=-n) {P:Params} {h:Heap} {args:List WData} {vals:List Value}
  (hpre:l.row.toRowW.claim.pre args=true) (hwl:WellAll P h vals args) :
  ∃a vs ns,vals=[Value.ref a]/\args=[WData.list (ns.map WData.int)]/\h.get? a=some { cls:=.type "list", data:=.seq vs.toArray }/\IntsAre vs ns/\ns.length<=n:=by
 have hsh:WShape.hasAll [] args [.list .int]=true:=(pre_splitW hpre).1;have hc:l.pre.holds [] { args:=args }=true:=(pre_splitW hpre).2;obtain⟨d,r,rfl,h1,h2⟩:=hasAllW_cons hsh;obtain rfl:=hasAllW_nil h2;obtain⟨xs,rfl,h3⟩:=hasW_list h1;obtain⟨ns,rfl⟩:=items_int h3
 have hlen:ns.length<=n:=by
  unfold OpenLaw.pre at hc
  have h4:(WTm.not (.lt (.lit (.int (n:Int))) (.len (.arg 0)))).holds [] { args:=[.list (ns.map .int)] }=true:=by
   have h4:=(holds_andW hc).1;rw[hn]at h4;exact h4
  have h5:=condW_of h4 (w_not (w_lt w_lit (w_len_list (w_arg rfl))));rw[Qa]at h5;refine Nat.le_of_not_lt λq=>?_;have q':(n:Int)<((ns.length:Nat):Int):=by omega
  first
   | (rw[QS q']at h5;exact absurd h5 (by decide))
   | (simp at h5;omega)
 cases hwl with
 | cons w1 w2 =>
 cases w2
 cases w1 with
 | list ho hall=>exact{_,_,ns,rfl,rfl,ho,ju ns _ hall,hlen}
theorem uw (l:OpenLaw) (args:List WData):l.row.toRowW.claim.post args (.bool true) args=true :=
 postW_of (r:=l.row.toRowW) (X:=(true==true))
  (show WShape.has [] (.bool true) .bool=true by first|rfl|decide|simp[WShape.has,WShape.arms,WShape.armsAll])
  (show (WTm.eq .res (.lit (.bool true))).value [] { args:=args,res:=-.bool true,after:=args }=-.bool (true==true) from w_eq_bool (w_res rfl) w_lit) rfl
theorem qP {l:OpenLaw} {n:Nat} {q:Program} {loose:List Str} {XP:J6->Heap->Prop} {YP:World->Heap->Prop} {d:DefRec}
  (hn:l.most=-n) (hdf:d.params.defaults=[])
  (call:∀(w:World) (s₀ s₁:Shared) (mg mb:J6) (fa:Addr) (o:Obj) (pm cd doc:Value) (a:Addr) (vs:List Value) (ns:List Int),
   Ground q loose [] XP w s₀ mg mb s₁.heap->YP w s₁.heap ->
   s₁.heap.get? fa=-o->o.data=.func (docDef d.name d.params d.body d.scope pm cd doc)->s₁.heap.CodeRec cd d.name->mg d.name=some (.ref fa) ->
   s₁.heap.get? a=some { cls:=.type "list", data:=.seq vs.toArray }->IntsAre vs ns->ns.length<=n->s₁.gens=#[] ->
   codeAny (model l.prog w) callerA (.call (.ref fa) {[.ref a],[]}) (λr s'=>r=.ok (.ret (.bool true))/\OldK s₁.heap s'.heap/\s'.os=s₁.os/\AllBare s'.gens) s₁) :
  WalkO q loose XP YP l.row.toRowW d [] (λf vs=>PySem.call f vs):=by
 intro w s₀ s₁ mg mb G Y fa o pm cd doc dV kV ho hd hcd hD hmg hg args vals as hpre hlay hrd hwl hlo;obtain rfl:dV=.none:=Dflts.none hD hdf;obtain rfl:kV=.none:=Dflts.noKw hD;obtain⟨a,vs,ns,rfl,rfl,hobj,hints,hlen⟩:=uo hn hpre hwl;refine enter_call (codeAny_mono (call w s₀ s₁ mg mb fa o pm cd doc a vs ns G Y ho (fd_plain hd) hcd hmg hobj hints hlen hg) λr s' hq=>?_);obtain⟨rfl,h2,h3,h4⟩:=hq;exact{.inl {.bool true,.bool true,[],rfl,λ_=>rfl,.bool true,uw l _,λ_=>{List.Pairwise.nil,λ_ hm=>(nomatch hm)} },h2,h3,h4}
section
variable {prog:Program} {w:World} {A:Around} {E:J0} {s:Shared} {K:Frag}
end
end Att
namespace L2
open PySem PySem.Spec PyProof.Rows
theorem mt:∀{vs:List Value} {ns:List Int},IntsAre vs ns->ba (ns.map V.int) vs
 | _,_,.nil=>.nil
 | _,_,.cons n t h=>.cons ⟨t,rfl⟩ (mt h)
end L2
/- THE LAST THEOREM (shape;LID,My.* are yours):
  My.Adr: a structure of the addresses that your layer names (classes,functions);My.Txt K t: a structure (Prop) of the equations over K;
  My.txt_mk:{K} {implicit addresses ..} (e1:nsIn K mainGlobals "law" = some (some (.ref f))) (e2:K.lookup f=some ⟨oc,od,.func (fnOf "law" "law" params body scope dV kV doc pm an cdv ct),sl⟩) (e3:codeIn K cdv "law" = true) ..:∃t,My.Txt K t
(the tactic k_is has no namespace: write k_is) -/
namespace L2
open PySem PySem.Spec PyProof.Rows
abbrev CX0:CXT:=λ_ _ _ _ _ _=>False
abbrev E0:XK:=λ_ _ _=>False
theorem zD {X:Cx}:lK CX0 X E0:=λ_ _ _ _ _ _ _ h=>h.elim
structure Fun (K:PySem.W.Frag) (x qual:Str) (st:Stmt) (f:Addr) (fd:FuncData):Prop where
 ex:∃(oc:Value) (od:Option Addr) (kV doc pm:Value) (an:Option Addr) (cdv ct:Value) (osl:Array (Option Value)),
  fd=PySem.W.fnOf x qual (dW st) (cL st) (aC st) .none kV doc pm an cdv ct/\K.lookup f=some {oc,od,.func fd,osl}/\PySem.W.codeIn K cdv qual=true
 kp:PySem.W.keepIn K (.ref f)=true
section
variable {P:Program} {w:World} {K:PySem.W.Frag} {mg:J6} {base:Heap}
variable {x qual:Str}
theorem Fun.ok {st:Stmt} {f:Addr} {fd:FuncData} {N ps:List Str} {k:Nat} {sp:Sp} (F:Fun K x qual st f fd) (S:FnScope N ps (aC st)) (len:∀vs H Q E,sp vs H Q E->vs.length=ps.length)
  (hbody:∀(cdv:Value) (A:Around) (outer:List Env) (s:Shared) (H:Hp) (vs:List V) (Q:VK) (E:XK),Room k (A.deeper (envOfC qual (aC st) s.heap.objs.size f cdv))->sp vs H Q E ->
   ∃t,PSs (cxOf CX0 P w K mg base N qual (aC st) f cdv A outer s H E).nox (cL st) t/\t { nx:=λ_ H'=>Q .non H',rt:=Q } (start N vs) H):FnOk P w K mg base CX0 (k+1) f fd ps sp:=by
 obtain⟨oc,od,kV,doc,pm,an,cdv,ct,osl,rfl,lk,hcd⟩:=F.ex;refine Au lk hcd S len λA outer s H vs Q E hr hsp=>?_;obtain⟨t,h,q⟩:=hbody cdv A outer s H vs Q E hr hsp;exact⟨t,h.nox,q⟩
theorem Fun.binds {st:Stmt} {f:Addr} {fd:FuncData} {ps:List Str} (F:Fun K x qual st f fd)
  (h:∀(kV doc pm:Value) (an:Option Addr) (cdv ct:Value) (us:List Value),us.length=ps.length->bindArgs (PySem.W.fnOf x qual (dW st) (cL st) (aC st) .none kV doc pm an cdv ct) {us,[]}=pure (ps.zip us)):gN K fd ps []:=by
 obtain⟨oc,od,kV,doc,pm,an,cdv,ct,osl,rfl,lk,hcd⟩:=F.ex;exact .all (h kV doc pm an cdv ct)
theorem r8 {st:Stmt} {f:Addr} {oc:Value} {od an:Option Addr} {osl:Array (Option Value)} {kV doc pm cdv ct:Value} (l:K.lookup f=some {oc,od,.func (PySem.W.fnOf x qual (dW st) (cL st) (aC st) .none kV doc pm an cdv ct),osl})
  (c:PySem.W.codeIn K cdv qual=true) (k:PySem.W.keepIn K (.ref f)=true):Fun K x qual st f (PySem.W.fnOf x qual (dW st) (cL st) (aC st) .none kV doc pm an cdv ct):={⟨oc,od,kV,doc,pm,an,cdv,ct,osl,rfl,l,c⟩,k}
end
theorem dC {A:Around} {k:Nat} (hr:Room k A):A.units+1<cLine:=Xy (Nat.add_le_add_left (by decide:1<=64) _) hr.units
section
variable {X:Cx}
theorem pv (i:Nat) {x:Str} {pos:Pos} (hN:X.N[i]?=-x:=by rfl) (hv:Vis X.env.scope x:=by first|exact Or.inl rfl|exact Or.inr (Or.inl rfl)|exact Or.inr (Or.inr rfl)) (hd:(x==("__debug__" : Str))=false:=by decide)
  (hcd:(x==("__classdict__" : Str))=false:=by decide):PE X (.Name x pos) (bY i):=AS hN hv hd hcd
end
variable {A B c:Prop}
theorem du (h:B):if false=true then A else B:=by
 rw[QE Qn];exact h
theorem ce (h:A):if true=true then A else B:=by
 rw[QF rfl];exact h
theorem fv [Decidable c] (h1:c->A) (h2:¬c->B):if c then A else B:=by
 by_cases h:c
 ·rw[QF h];exact h1 h
 rw[QE h];exact h2 h
def ao (H H':Hp):Prop:=∀b o,H b=-o->H' b=-o
theorem ao.refl (H:Hp):ao H H:=λ_ _ h=>h
theorem ao.trans {H H1 H2:Hp} (a:ao H H1) (b:ao H1 H2):ao H H2:=λc o h=>b c o (a c o h)
theorem ao.free {H H':Hp} (e:ao H H') {l:Addr} (h:H' l=Option.none):H l=Option.none:=by
 cases q:H l with
 | none=>rfl
 | some o =>
 rw[e l o q]at h;cases h
theorem ao.seq {K:PySem.W.Frag} {H H':Hp} {a:Addr} {xs:List V} (e:ao H H') (h:SqL K H a xs):SqL K H' a xs:=by
 rcases h with(h|⟨o,h⟩)|h
 ·exact .inl (.inl (e _ _ h))
 ·exact .inl (.inr {o,e _ _ h})
 exact .inr h
section
variable {κ:Type} [DecidableEq κ]
variable {kvs:List (κ × V)}
theorem vo {k:κ} (h:bi kvs k=none):¬k∈kvs.map (·.1):=by
 intro m;obtain⟨p,hp,e⟩:=Qj.mp m;have q:(kvs.any λkv=>decide (kv.1=k))=true:=List.any_eq_true.mpr {p,hp,QS e};rw[cQ,h]at q;exact absurd q (by simp)
theorem xM {k:κ} {v:V} (h:bi kvs k=-v):k∈kvs.map (·.1):=by
 have q:(kvs.any λkv=>decide (kv.1=k))=true:=by
  rw[cQ,h]
  all_goals rfl
 obtain⟨p,hp,e⟩:=List.any_eq_true.mp q;exact Qj.mpr {p,hp,XM e}
end
section
variable {X:Cx}
theorem vf:d6 X (.builtin "len") (λxs H Q=>∃a kvs,xs=[V.ref a]/\H a=-.dK kvs/\Q (.int kvs.length) H):=by
 intro pins s U H xs us Q I r h;obtain⟨a,kvs,rfl,ha,q⟩:=h;obtain⟨u,rfl,ru⟩:=d8 r;cases ru;exact Ge I (.inl ha) λt s' I'=>{.int kvs.length,H,I',⟨t,rfl⟩,q}
end
end L2
set_option maxHeartbeats 4000000
namespace L2
open PySem PySem.Spec PyProof.Rows
def wk:St->St->Prop
 | [],[]=>True
 | none::a,_::b=>wk a b
 | some x::a,y::b=>y=-x/\wk a b
 | _,_=>False
theorem nj:∀{a b:St},wk a b->a.length=b.length
 | [],[],_=>rfl
 | [],_::_,h=>h.elim
 | none::_,[],h=>h.elim
 | some _::_,[],h=>h.elim
 | none::a,_::b,h=>congrArg (·+1) (nj (a:=a) (b:=b) h)
 | some _::a,_::b,h=>congrArg (·+1) (nj (a:=a) (b:=b) h.2)
theorem nk:∀{a b:St},wk a b->∀(i:Nat) (v:V),a[i]?=- -v->b[i]?=- -v
 | [],[],_,i,v,e=>by simp at e
 | [],_::_,h,_,_,_=>h.elim
 | none::_,[],h,_,_,_=>h.elim
 | some _::_,[],h,_,_,_=>h.elim
 | none::a,y::b,h,0,v,e=>by simp at e
 | none::a,y::b,h,i+1,v,e=>by
  have:=nk (a:=a) (b:=b) h i v (~~~e);simpa using this
 | some x::a,y::b,h,0,v,e=>by
  have e':x=v:=by simpa using e
  subst e';rw[h.1];rfl
 | some x::a,y::b,h,i+1,v,e=>by
  have:=nk (a:=a) (b:=b) h.2 i v (~~~e);simpa using this
def dE (env:Env):List (Str × NameKind)->List (Str × Addr)->List (Str × Addr)
 | [],acc=>acc
 | (n,k)::r,acc=>dE env r (if (k==.free)=true then (n,(env.cells.lookup n).getD 0)::acc else acc)
theorem lc {env:Env}:∀(ns:List (Str × NameKind)) (acc:List (Str × Addr)),(∀y∈ns,y.2=.free->∃c,env.cells.lookup y.1=-c) ->
  (forIn ns acc (fun x r=>match x with
   | (name,kind)=>if (kind==NameKind.free)=true then (do let c <-cellOf env name;pure (ForInStep.yield ((name,c)::r))) else pure (ForInStep.yield r)):Sem (List (Str × Addr)))=pure (dE env ns acc)
 | [],acc,_=>rfl
 | (n,k)::r,acc,h=>by
  rw[List.forIn_cons];have ih:=λa=>lc (env:=env) r a λy hy=>h y (Qx _ hy);by_cases hk:(k==NameKind.free)=true
  ·obtain⟨c,hc⟩:=h (n,k) Xk (~~~hk);have e1:cellOf env n=pure c:=by unfold cellOf;rw[hc]
   simp only[hk,if_true,e1,pure_bind];unfold dE;simp only[hk,if_true,hc,Option.getD_some];exact ih _
  simp only[hk,if_false,pure_bind];unfold dE;simp only[hk,if_false];exact ih _
variable {env:Env} {scope:Scope}
theorem ld (h:∀y∈scope.names,y.2=.free->∃c,env.cells.lookup y.1=-c):closureFor scope env=pure (dE env scope.names []):=by
 have e:=lc scope.names [] h;unfold closureFor
 first
  | (rw[show (forIn scope.names ([]:List (Str × Addr)) _:Sem (List (Str × Addr)))=pure (dE env scope.names []) from e];rfl)
  | (simp only[bind_pure];exact e)
  | exact(congrArg (· >>= pure) e)
theorem iX {env:Env}:∀(ns:List (Str × NameKind)) (acc:List (Str × Addr)) (n:Str) (a:Addr),(n,a)∈dE env ns acc->(n,a)∈acc\/(a=(env.cells.lookup n).getD 0/\(n,NameKind.free)∈ns)
 | [],acc,n,a,h=>.inl h
 | (m,k)::r,acc,n,a,h=>by
  unfold dE at h;by_cases hk:(k==NameKind.free)=true
  ·rw[QF hk]at h;rcases iX r _ n a h with q|⟨q1,q2⟩
   ·rcases QP.mp q with q|q
    ·cases q;have hk':k=.free:=by simpa using hk
     subst hk';exact .inr ⟨rfl,Xk⟩
    exact .inl q
   exact .inr {q1,Qx _ q2}
  rw[QE hk]at h;rcases iX r _ n a h with q|⟨q1,q2⟩
  ·exact .inl q
  exact .inr {q1,Qx _ q2}
theorem mZ {env:Env}:∀(ns:List (Str × NameKind)) (acc:List (Str × Addr)) (p:Str × Addr),p∈acc->p∈dE env ns acc
 | [],_,_,h=>h
 | (m,k)::r,acc,p,h=>by
  unfold dE;refine mZ r _ p ?_
  split
  ·exact Qx _ h
  exact h
theorem k_ {env:Env}:∀(ns:List (Str × NameKind)) (acc:List (Str × Addr)) (n:Str),(n,NameKind.free)∈ns->(n,(env.cells.lookup n).getD 0)∈dE env ns acc
 | [],_,_,h=>nomatch h
 | (m,k)::r,acc,n,h=>by
  unfold dE;rcases QP.mp h with q|q
  ·cases q;refine mZ r _ _ ?_;rw[QF (by rfl)];exact Xk
  exact k_ r _ n q
theorem eS {α β:Type} [BEq α] [LawfulBEq α]:∀{l:List (α × β)} {x:α} {y:β},l.lookup x=-y->(x,y)∈l
 | [],_,_,h=>by simp at h
 | (a,b)::r,x,y,h=>by
  rw[Q8]at h;by_cases e:(x==a)=true
  ·rw[e]at h;have e':x=a:=by simpa using e
   have h':b=y:=by simpa using h
   subst e' h';exact Xk
  have e2:(x==a)=false:=by simpa using e
  rw[e2]at h;exact Qx _ (eS (~~~h))
theorem gI {α β:Type} [BEq α] [LawfulBEq α]:∀{l:List (α × β)} {x:α} {y:β},(x,y)∈l->∃z,l.lookup x=-z
 | [],_,_,h=>nomatch h
 | (a,b)::r,x,y,h=>by
  rw[Q8];by_cases e:(x==a)=true
  ·rw[e];exact⟨b,rfl⟩
  have e2:(x==a)=false:=by simpa using e
  rw[e2];rcases QP.mp h with q|q
  ·cases q;simp at e
  exact gI q
variable {c it e T a p:Addr} {x z:Str} {ns:List (Str × NameKind)}
theorem xB (h:(dE env ns []).lookup x=-c) (hall:∀y∈ns,y.2=.free->∃c,env.cells.lookup y.1=-c):env.cells.lookup x=-c:=by
 rcases iX ns [] x c (eS h) with q|⟨q1,q2⟩
 ·nomatch q
 obtain⟨c',hc⟩:=hall _ q2 rfl;have hc':env.cells.lookup x=-c':=hc;rw[hc']at q1;rw[hc',q1];rfl
theorem tW {env:Env} (h:(x,NameKind.free)∈ns):∃c,(dE env ns []).lookup x=-c:=gI (k_ ns [] x h)
noncomputable def Cx.block (X:Cx) (N:List Str) (scope:Scope) (C:Addr) (s:Shared) (H:Hp) (fp:J7):Cx :=
 { X with N:=N,s₀:=s,H₀:=H,env:=compEnvC scope (dE X.env scope.names []) C X.env,outer:=X.stack,ex:=fp,fn:=λ_=>false,pn:=[],xe:=λ_ _=>False }
theorem nQ {k:NameKind} (h:(relabel scope env).names.lookup x=-k):∃k',scope.names.lookup x=-k'/\(k=k'\/(k'=.free/\k=.cell)):=by
 unfold relabel at h;generalize scope.names=ns at h
 induction ns with
 | nil=>simp at h
 | cons p r ih =>
 obtain⟨n,k0⟩:=p;rw[QN]at h;by_cases e:(x==n)=true
 ·refine{k0,by rw[Q8,e],?_};by_cases c:(k0==NameKind.free&&env.scope.kind==.function&&env.kindOf n==-.cell)=true
  ·have h1:-NameKind.cell=-k:=by
    have h2:=h;simp only[c,if_true]at h2;rw[Q8,e]at h2;exact h2
   have h3:k0=.free:=by
    simp only[Xj,beq_iff_eq]at c;exact c.1.1
   exact .inr {h3,(Q2 h1).symm}
  have h1:-k0=-k:=by
   have h2:=h;simp only[c,QW,if_false]at h2;rw[Q8,e]at h2;exact h2
  exact .inl (Q2 h1).symm
 have e2:(x==n)=false:=by simpa using e
 rw[Q8,e2];refine ih ?_;by_cases c:(k0==NameKind.free&&env.scope.kind==.function&&env.kindOf n==-.cell)=true
 ·have h2:=h;simp only[c,if_true]at h2;rw[Q8,e2]at h2;exact h2
 have h2:=h;simp only[c,QW,if_false]at h2;rw[Q8,e2]at h2;exact h2
theorem nR (h:scope.names.lookup x=-.free):(relabel scope env).names.lookup x=-.cell\/(relabel scope env).names.lookup x=-.free:=by
 unfold relabel;show List.lookup x (scope.names.map _)=_\/List.lookup x (scope.names.map _)=_;generalize scope.names=ns at h
 induction ns with
 | nil=>simp at h
 | cons p r ih =>
 obtain⟨n,k0⟩:=p;rw[QN];by_cases e:(x==n)=true
 ·rw[Q8,e]at h;have h':k0=.free:=by simpa using h
  subst h';by_cases c:(NameKind.free==NameKind.free&&env.scope.kind==.function&&env.kindOf n==-.cell)=true
  ·left
   simp only[c,if_true];rw[Q8,e]
  right
  simp only[c,QW,if_false];rw[Q8,e]
 have e2:(x==n)=false:=by simpa using e
 rw[Q8,e2]at h;have h3:=ih h;by_cases c:(k0==NameKind.free&&env.scope.kind==.function&&env.kindOf n==-.cell)=true
 ·simp only[c,if_true];rw[Q8,e2];exact h3
 simp only[c,QW,if_false];rw[Q8,e2];exact h3
def yX (X:Cx) (ifs:List Expr) (t:TT):Prop :=
 ∀(pins:J5) (s:Shared) (U:St) (H:Hp) (Q:Bool->Hp->Prop),Inv X pins U H s->t U H Q ->
  wpAny (model X.prog X.w) X.A (forIn ifs true λc r=>if r=true then do let ok <-isTrue c X.env (eval c X.env);pure (ForInStep.yield ok) else pure (ForInStep.yield r)) (TP X pins U Q) X.xe s
def gP:TT:=λ_ H Q=>Q true H
theorem fY {X:Cx}:yX X [] gP:=λ_ _ _ H _ I h=>wpAny_tests_nil ⟨H,I,h⟩
theorem pZ {X:Cx} {c:Expr} {t:TT} (h:PT X c t):yX X [c] t:=λpins s U H Q I hw=>wpAny_tests_one (h pins s U H Q I hw)
variable {pos px:Pos} {w:World} {prog P:Program}
theorem iA {A:Around} {R:Result->Shared->Prop} {s:Shared} {elt target iter:Expr} {ifs:List Expr} {it acc:Value} (I:Nat->Shared->Prop)
  (turn:∀n s,I n s->wpAny (model prog w) A (pyNext it) (fun r s1=>match r with
   | none=>R (.ok .next) s1
   | some v=>wpAny (model prog w) A (letOwnedTupleGo target it v) (λ_ s2=>wpAny (model prog w) A (assign target env v) (λ_ s3 =>
     wpAny (model prog w) A (forIn ifs true λc r=>if r=true then do let ok <-isTrue c env (eval c env);pure (ForInStep.yield ok) else pure (ForInStep.yield r)) (λok s4 =>
      if ok=true then wpAny (model prog w) A (eval elt env) (λx s5 =>
       wpAny (model prog w) A (call (.builtin "list.append") [acc,x]) (λ_ s6=>∃m,m<n/\I m s6) (λ_ _=>False) s5) (λ_ _=>False) s4
      else ∃m,m<n/\I m s4) (λ_ _=>False) s3) (λ_ _=>False) s2) (λ_ _=>False) s1) (λ_ _=>False) s)
  (n:Nat) (h:I n s):codeAny (model prog w) A (.compLoop (.ListComp elt [{target,iter,ifs,0}] scope pos) 0 it acc env) R s:=by
 refine codeAny_loop rfl I (λn s hI=>?_) n h;show wpAny _ A ((compTurn (.ListComp elt [{target,iter,ifs,0}] scope pos) 0 it acc env).onRaise (λx=>do noteFrame x env;theTreesLotGoes x)) _ _ s;refine wpAny_noted ?_;rw[compTurn_list];have no:∀{E:J0},∀e s',(λ(_:Value) (_:Shared)=>False) e s'->E e s':=λ_ _ z=>False.elim z;refine Qb (wpAny_standAt (Qb (Xr (turn n s hI) (λr s1 h1=>?_) no)))
 cases r with
 | none=>exact Qf h1
 | some v =>
 refine Qb (Xr h1 (λ_ s2 h2=>?_) no);refine Qb (Xr h2 (λ_ s3 h3=>Qb (Xr h3 (λok s4 h4=>?_) no)) no)
 cases ok with
 | false=>exact Qf ⟨rfl,h4⟩
 | true =>
 exact Qb (Qb (Xr h4 (λx s5 h5=>Qb (Xr h5 (λ_ s6 h6=>Qf (Qf ⟨rfl,h6⟩)) no)) no))
def cg (tgs:List Str) (cap:List (Str × Nat)) (U:St):St:=tgs.map (λ_=>none)++cap.map λc=>(U[c.2]?).join
def i7 (wi:TI) (g:TG) (tt:TT) (te:TE) (f:St->St):TE:=λU H Q=>wi U H λJ H1=>∀D,H1 D=none->∃W:Nat->Nat->Hp->List V->Prop,(∃m,W 0 m (upd H1 D (.lst [])) []) /\
 ∀i m H ys,W i m H ys->H D=-.lst ys/\((J.stop i H/\Q (.ref D) H)\/(J.go i H/\∀x H',J.yld i H x H'->g x (f U) H' λσ2 H2=>wk (f U) σ2/\tt σ2 H2 λb H3 =>
  if b=true then te σ2 H3 λv H4=>H4 D=-.lst ys/\ys.length<sizeLine/\∃m',m'<m/\W (i+1) m' (upd H4 D (.lst (ys++[v]))) (ys++[v])
  else ∃m',m'<m/\W (i+1) m' H3 ys))
structure BlockOk (X:Cx) (scope:Scope) (tgs:List Str) (cap:List (Str × Nat)):Prop where
 kind:scope.kind=.function
 nocell:(scope.names.all λy=>!(y.2==NameKind.cell))=true
 names:(scope.names.all λy=>!(y.2==NameKind.local) || (scope.names.lookup y.1==-.local))=true
 free:(scope.names.all λy=>!(y.2==NameKind.free) || (X.env.scope.names.lookup y.1==-.cell) || (X.env.scope.names.lookup y.1==-.free))=true
 caps:(cap.all λc=>decide (X.N[c.2]?=-c.1)&&(scope.names.lookup c.1==-.free)&&(decide (X.env.scope.names.lookup c.1=-.cell) || decide (X.env.scope.names.lookup c.1=-.free)))=true
 tgl:(tgs.all λx=>(scope.names.lookup x==-.local))=true
section
variable {X:Cx} {scope:Scope} {tgs:List Str} {cap:List (Str × Nat)}
theorem BlockOk.cellAt (B:BlockOk X scope tgs cap) (ok:X.Ok):∀y∈scope.names,y.2=.free->∃c,X.env.cells.lookup y.1=-c:=λy hy hk=>by
 have q:=QM.mp B.free y hy;rw[hk]at q;refine ok.has y.1 ?_;simp only[beq_self_eq_true,Bool.not_true,Bool.false_or,Bool.or_eq_true,beq_iff_eq]at q;exact q
theorem BlockOk.noc (B:BlockOk X scope tgs cap):∀y∈scope.names,y.2≠.cell:=λy hy hk=>by
 have q:=QM.mp B.nocell y hy;rw[hk]at q;simp at q
theorem BlockOk.locs (B:BlockOk X scope tgs cap):∀y∈scope.names,y.2=.local->scope.names.lookup y.1=-.local:=λy hy hk=>by
 have q:=QM.mp B.names y hy;rw[hk]at q;simpa using q
variable {pins:J5}
theorem Inv.enter {U:St} {H:Hp} {s:Shared} {h1:Heap} {tk:Nat} {fp:J7} (B:BlockOk X scope tgs cap) (I:Inv X pins U H s) (hfp:∀b∈fp,ie X pins H b) (hlt:∀b∈fp,b<s.heap.objs.size)
  (hns:h1.Ns s.heap.objs.size (λ_=>none)) (old:∀b o,s.heap.get? b=-o->h1.get? b=-o) :
  Inv (X.block (tgs++cap.map (·.1)) scope s.heap.objs.size s H fp) [] (cg tgs cap U) H { s with heap:=h1,toks:=tk }:=by
 have cellsIn:∀x c,(dE X.env scope.names []).lookup x=-c->X.env.cells.lookup x=-c:=λx c e=>xB e (B.cellAt I.ok)
 have kindIn:∀x,((relabel scope X.env).names.lookup x=-.cell\/(relabel scope X.env).names.lookup x=-.free)->(x,NameKind.free)∈scope.names:=λx hx=>by
  have go:∀k,(relabel scope X.env).names.lookup x=-k->(k=.cell\/k=.free)->(x,NameKind.free)∈scope.names:=λk hk hc=>by
   obtain⟨k',e1,e2⟩:=nQ hk;have m:=eS e1;rcases e2 with e2|⟨e2,_⟩
   ·subst e2;rcases hc with z|z
    ·exact absurd z (B.noc _ m)
    subst z;exact m
   subst e2;exact m
  rcases hx with h|h
  ·exact go _ h (.inl rfl)
  exact go _ h (.inr rfl)
 have nocl:∀x c,X.env.cells.lookup x=-c->c≠s.heap.objs.size:=λx c e=>by
  obtain⟨v,q⟩:=I.cell x c e;exact Qz q.lt
 refine{ {I.ok.mod,?_,I.ok.glob,I.ok.blt,Qh _,λx y c e1 e2=>I.ok.inj x y c (cellsIn x c e1) (cellsIn y c e2),λx hx=>?_,λx c hf _=>absurd (show false=true from hf) Qn,I.ok.hd,I.ok.frames,.inl rfl,
  λb hb=>{Qz (hlt b hb),λx c e=>?_},I.bs,QY I.ok.bsz I.sz,λb o e hb=>?_,λb hb hf=>?_,I.stack,I.stkFree},
  rfl,I.bare,Un.kept old,{_,hns,λi x v h2 h3 h4=>?_},λx c e=>?_,?_,λx c e=>I.freeC x c (cellsIn x c e),λp hp=>absurd (show p∈([]:J5) from hp) (by simp),I.hok.kept old,?_}
 ·exact B.kind
 ·exact tW (kindIn x hx)
 ·exact(hfp b hb).2.2.2.2.1 x c (cellsIn x c e)
 ·-- no object of the base is an iterator of ours
  rcases(hfp b hb).2.2.2.1 with z|z
  ·exact I.ok.noex b o e z
  have q:=I.ok.bs b o e;exact absurd (QG (Qm q.1) z) (Nat.lt_irrefl _)
 ·have hf':b∈frs X.stack:=hf;rcases QP.mp (I.stkSub b hf') with z|z
  ·exact(hfp b hb).2.1 z
  exact(hfp b hb).2.2.1 z
 ·-- a name that is known: one of the captured ones
  have hi:tgs.length<=i:=by
   by_cases hl:i<tgs.length
   ·exfalso;unfold cg at h3;rw[QO (~~~hl),Qi]at h3
    cases e:tgs[i]? with
    | none=>rw[e]at h3;cases h3
    | some z=>rw[e]at h3;cases h3
   exact om2 hl
  unfold cg at h3;rw[QK (~~~hi),Qa,Qi]at h3;have h2':(tgs++cap.map (·.1))[i]?=-x:=h2;rw[QK hi,Qi]at h2'
  cases e:cap[i-tgs.length]? with
  | none=>rw[e]at h2';cases h2'
  | some c =>
  rw[e]at h2' h3;have hx:c.1=x:=by simpa using h2'
  have hv:(U[c.2]?).join=-v:=by simpa using h3
  have hm:c∈cap:=Qg e;have q:=QM.mp B.caps c hm;simp only[Xj,decide_eq_true_eq,beq_iff_eq,Bool.or_eq_true]at q;obtain⟨⟨q1,q2⟩,q3⟩:=q
  have hσ:U[c.2]?=- -v:=by
   cases z:U[c.2]? with
   | none=>rw[z]at hv;cases hv
   | some o =>
   rw[z]at hv;have:o=-v:=by simpa using hv
   rw[this]
  obtain⟨m,_,hl⟩:=I.loc
  obtain⟨u,r,l⟩:=hl c.2 c.1 v q1 hσ (by
   rcases q3 with z|z
   ·exact .inr (.inl z)
   exact .inr (.inr z))
  subst hx;refine{u,r,.inr {nR q2,?_} }
  have nl:¬X.env.kindOf c.1=-.local:=λz=>by
   rcases q3 with y|y
   ·have:X.env.kindOf c.1=-.cell:=y;rw[this]at z;cases z
   have:X.env.kindOf c.1=-.free:=y;rw[this]at z;cases z
  rcases l with⟨l1,_⟩|⟨_,d,l2,l3⟩
  ·exact absurd l1 nl
  obtain⟨d',e'⟩:=tW (env:=X.env) (eS q2);have:d=d':=Q2 (l2.symm.trans (cellsIn _ _ e'));subst this;obtain⟨oc,ho,hd⟩:=l3;exact{d,e',oc,old d oc ho,hd}
 ·obtain⟨v,oc,ho,hd⟩:=I.cell x c (cellsIn x c e);exact{v,oc,old c oc ho,hd}
 ·exact I.hok.fresh (Qh _)
 unfold cg;show _=(tgs++cap.map (·.1)).length;simp
theorem Inv.leave {U σ':St} {H H':Hp} {s s':Shared} {h2:Heap} {fp:J7} {N:List Str} (I:Inv X pins U H s) (hfp:∀b∈fp,ie X pins H b)
  (J:Inv (X.block N scope s.heap.objs.size s H fp) [] σ' H' s') (hs:Heap.SameBut s.heap.objs.size s'.heap h2):Inv X pins U H' { s' with heap:=h2 }:=by
 have u:Un (frs X.stack) fp H H' s.heap s'.heap:=J.base;have ne:∀b o,s.heap.get? b=-o->b≠s.heap.objs.size:=λb o e=>Qz (Qm e);have hf:H' s.heap.objs.size=none:=J.free;have k:∀b o,b≠s.heap.objs.size->s'.heap.get? b=-o->h2.get? b=-o:=λb o hb e=>(hs.2 b hb).trans e
 have u2:Un (frs X.stack) fp H H' s.heap h2 :=
  {λb o e n h1 h3=>k b o (ne b o e) (u.keep b o e n h1 h3),λb o e n h1 h3=>let ⟨sl,q⟩:=u.slot b o e n h1 h3;{sl,k b _ (ne b o e) q},u.free,λb o e h3=>let ⟨o',q⟩:=u.there b o e h3;{o',k b o' (ne b o e) q},u.tups,u.frzs,u.tbls}
 have hok:HOk X.prog X.w H' h2:=λb ob e=>(J.hok b ob e).stay (λc v hc q=>k c v (by
  rcases hc with z|z
  ·subst z;intro y;rw[y,hf]at e;cases e
  intro y
  rw[y,hf]at z;cases z) q) (λ_ q=>q) λ_ _ q=>q
 exact Inv.call' I (s':={ s' with heap:=h2 }) J.os u2 hok J.bare λb hb=>by
  obtain⟨f0,f1,f2,f3,f4,f5⟩:=hfp b hb;exact⟨f3,f1,f4,f5⟩
theorem qe {elt tg iter:Expr} {ifs:List Expr} {pos:Pos} {wi:TI} {g:TG} {tt:TT} {te:TE} (hc:X.calm=true) (B:BlockOk X scope tgs cap) (hi:PI X tg iter wi)
  (hg:∀C s H fp,PG (X.block (tgs++cap.map (·.1)) scope C s H fp) tg g) (ht:∀C s H fp,yX (X.block (tgs++cap.map (·.1)) scope C s H fp) ifs tt) (he:∀C s H fp,PE (X.block (tgs++cap.map (·.1)) scope C s H fp) elt te)
  (hs:∀x,foldedSetIterable iter X.env x=pure x:=by intro _;rfl):PE X (.ListComp elt [{tg,iter,ifs,0}] scope pos) (i7 wi g tt te (cg tgs cap)):=by
 intro pins s U H Q I h;rw[eval_ListComp];refine wpAny_comprehension_free (use:=none) rfl hs (ld (B.cellAt I.ok)) B.kind B.locs (thn (hi pins s U H _ I h) λv s1 h1=>thn h1 λitv s2 h2=>?_);obtain⟨it,fp,tn,J,H2,e,I2,T,st2,f2,q⟩:=h2;subst e;have lt2:∀b∈fp,b<s2.heap.objs.size:=λb hb=>let ⟨o,e,_⟩:=T.obj _ _ st2 b hb;Qm e;have hD:H2 s2.heap.objs.size=none:=I2.hok.fresh (Qh _);obtain⟨W,⟨m0,w0⟩,turn⟩:=q s2.heap.objs.size hD;refine wpAny_newObj_type ?_;have I3:Inv X pins U (upd H2 s2.heap.objs.size (.lst [])) { s2 with heap:=s2.heap.push { cls:=.type "list", dict:=none,data:=.seq ([]:List Value).toArray } }:=I2.lnew (t':=s2.toks) (ys:=[]) (its:=[]) .nil (QB _);have st3:tn 0 (s2.heap.push { cls:=.type "list", dict:=none,data:=.seq ([]:List Value).toArray }):=T.keep _ _ _ st2 λb _ o e=>Qd _ e;have nD:∀b∈fp,b≠s2.heap.objs.size:=λb hb=>Qz (lt2 b hb);have f3:∀b∈fp,ie X pins (upd H2 s2.heap.objs.size (.lst [])) b:=λb hb=>{by rw[am (nD b hb)];exact(f2 b hb).1,(f2 b hb).2};generalize hs3:({ s2 with heap:=s2.heap.push { cls:=.type "list", dict:=none,data:=.seq ([]:List Value).toArray } }:Shared)=s3 at I3 st3 ⊢;have st3':tn 0 s3.heap:=by rw[<-hs3];exact st3
 have lt3:∀b∈fp,b<s3.heap.objs.size:=λb hb=>let ⟨o,e,_⟩:=T.obj _ _ st3' b hb;Qm e;generalize hH3:upd H2 s2.heap.objs.size (.lst [])=H3 at I3 f3 w0;generalize s2.heap.objs.size=D at *;refine wpAny_newFunctionEnv B.noc (by intro y hy;simp at hy) (λh1 hns hsb=>?_) B.kind;have old:∀b o,s3.heap.get? b=-o->h1.get? b=-o:=λb o e=>hsb.extBut b o (Qz (Qm e)) (Qd _ e);have I4:=Inv.enter (tk:=s3.toks+([]:List (Str × Value)).length) (h1:=h1) B I3 f3 lt3 hns old;have st4:tn 0 h1:=T.keep _ _ _ st3' λb _ o e=>old b o e
 have fpB:∀{H':Hp},(∀b∈fp,H' b=none)->∀b∈fp,ie (X.block (tgs++cap.map (·.1)) scope s3.heap.objs.size s3 H3 fp) [] H' b:=λ{H'} hn b hb =>
  {hn b hb,Qz (lt3 b hb),I4.ok.exfs b hb,.inl hb,λx c e=>(I4.ok.exf b hb).2 x c e,λp hp=>absurd (show p∈([]:J5) from hp) (by simp)}
 have loop:codeAny (model X.prog X.w) X.A (.compLoop (.ListComp elt [{tg,iter,ifs,0}] scope pos) 0 (.ref it) (.ref D) (compEnvC scope (dE X.env scope.names []) s3.heap.objs.size X.env))
   (compPost (model X.prog X.w) X.A X.xe none (EP X pins U Q) (.ref D) s3.heap.objs.size) { s3 with heap:=h1,toks:=s3.toks+([]:List (Str × Value)).length }:=by
  refine iA (λn s'=>∃i H' ys,Inv (X.block (tgs++cap.map (·.1)) scope s3.heap.objs.size s3 H3 fp) [] (cg tgs cap U) H' s'/\tn i s'.heap/\(∀b∈fp,H' b=none)/\W i n H' ys) ?_ m0 {0,H3,[],I4,st4,λb hb=>(f3 b hb).1,w0};rintro n s5 ⟨i,H5,ys,I5,st5,fr5,w5⟩;obtain⟨hl,ht5⟩:=turn i n H5 ys w5;rcases ht5 with⟨stop,qd⟩|⟨go,step⟩
  ·refine thn (T.done (X.block (tgs++cap.map (·.1)) scope s3.heap.objs.size s3 H3 fp) rfl rfl rfl hc i [] s5 _ H5 _ I5 (fpB fr5) st5 stop) λr s6 ⟨hr,I6⟩=>?_;subst hr;obtain⟨m6,n6,_⟩:=I6.loc;exact{m6,n6,λh' hs'=>{.ref D,H5,Inv.leave I3 f3 I6 hs',rfl,qd} }
  refine thn (T.item (X.block (tgs++cap.map (·.1)) scope s3.heap.objs.size s3 H3 fp) rfl rfl rfl hc i [] s5 _ H5 _ I5 (fpB fr5) st5 go) λr s6 ⟨u,hr,h6⟩=>?_;subst hr;refine thn h6 λ_ s7 ⟨x,H7,I7,r7,y7,st7,fr7⟩=>?_;have I7':=I7.pinned (fpB fr7) (T.obj _ _ st7)
  have again:∀{σ8:St} {H8:Hp} {s8:Shared} {ys8:List V},Inv (X.block (tgs++cap.map (·.1)) scope s3.heap.objs.size s3 H3 fp) ([]++iM fp s7.heap) σ8 H8 s8->wk (cg tgs cap U) σ8->(∃m',m'<n/\W (i+1) m' H8 ys8) ->
    ∃m,m<n/\∃i H' ys,Inv (X.block (tgs++cap.map (·.1)) scope s3.heap.objs.size s3 H3 fp) [] (cg tgs cap U) H' s8/\tn i s8.heap/\(∀b∈fp,H' b=none)/\W i m H' ys:=λ{σ8 H8 s8 ys8} I8 k8 ⟨m',hm,w8⟩=>by
   refine{m',hm,i+1,H8,ys8,I8.unpinned.weak (nj k8) (nk k8),T.keep _ _ _ st7 λb hb o e=>(I8.pin (b,o) (QV _ (QV _ (dM hb e)))).1,λb hb=>?_,w8};obtain⟨o,e,d⟩:=T.obj _ _ st7 b hb;exact(I8.pin (b,o) (QV _ (QV _ (dM hb e)))).2.1
  refine thn (hg _ _ _ _ _ s7 _ H7 x u _ I7' r7 (step x H7 y7)) λ_ s8 ⟨σ8,H8,I8,k8,q8⟩=>?_;refine thn (ht _ _ _ _ _ s8 σ8 H8 _ I8 q8) λok s9 ⟨H9,I9,q9⟩=>?_
  cases ok with
  | false =>
   rw[QE Qn]at q9 ⊢;exact again I9 k8 q9
  | true =>
  rw[QF rfl]at q9 ⊢;refine thn (he _ _ _ _ _ s9 σ8 H9 _ I9 q9) λy sA ⟨yv,HA,IA,rA,hA,zA,qA⟩=>?_;exact thn (be _ sA σ8 HA (.ref D) [yv] (.ref D) [y] (λv H'=>v=.non/\∃m',m'<n/\W (i+1) m' H' (ys++[yv])) IA rfl (.cons rA .nil) ⟨D,ys,yv,rfl,rfl,hA,zA,rfl,qA⟩) λ_ sB ⟨_,HB,IB,_,_,qB⟩=>again IB k8 qB
 exact codeAny_compStart_list loop (T.self _ 0 _ _ _ st4 loop)
theorem dB {X:Cx} {scope:Scope} {elt iter:Expr} {p pos:Pos} {wi:TI} {te:TE} (x:Str) (cap:List (Str × Nat)) (hi:PI X (.Name x p) iter wi) (he:∀C s H fp,PE (X.block ([x]++cap.map (·.1)) scope C s H fp) elt te) (hc:X.calm=true:=by rfl) (B:BlockOk X scope [x] cap:=by exact⟨rfl,rfl,rfl,rfl,rfl,rfl⟩) (hN:([x]++cap.map (·.1)).Nodup:=by decide +kernel) (hg:([x]++cap.map (·.1)).Nodup->∀C s H fp,PG (X.block ([x]++cap.map (·.1)) scope C s H fp) (.Name x p) (eU 0):=by intro h _ _ _ _;exact dh (i:=0) h rfl (by z_go)) (hs:∀x,foldedSetIterable iter X.env x=pure x:=by intro _;rfl):PE X (.ListComp elt [{.Name x p,iter,[],0}] scope pos) (i7 wi (eU 0) gP te (cg [x] cap)):=qe hc B hi (hg hN) (λ_ _ _ _=>fY) he hs
end
def Itf (n:Nat) (f:Nat->V):It:={λi _=>i<n,λi H x H'=>H'=H/\x=f i,λi _=>i=n}
variable {n i:Nat} {K:PySem.W.Frag}
theorem jM {f:Nat->V} {Pv:Nat->Value->Prop} {St:Nat->Heap->Prop}
  (W:∀A:Around,A.handled=none->Walks P w A it [it] [it] n Pv St) (hP:∀i v,Pv i v->aY (f i) v) (hobj:∀i h,St i h->∃o,h.get? it=-o/\∀v,o.data≠.cell v)
  (hfr:∀i h h',St i h->(∀o,h.get? it=-o->h'.get? it=-o)->St i h')
  (hself:∀(A:Around) (i:Nat) (s:Shared) (Q:J0) (E:J0),St i s.heap->Q (.ref it) s->wpAny (model P w) A (pyIter (.ref it)) Q E s) :
  Turn P w K (.Name x px) (Itf n f) [it] it St where
 mem:=by simp
 obj:=λi h st b hb=>by
  have e:b=it:=by simpa using hb
  subst e;exact hobj i h st
 keep:=λi h h' st k=>hfr i h h' st λo e=>k it (by simp) o e
 item:=by
  intro X hP' hw hK hc i pins s U H E I hf st hg;subst hP' hw hK;obtain⟨f0,f1,f2,f3,f4,f5⟩:=hf it (by simp);refine(W X.A (I.ok.hd hc)).item i s _ _ hg st λv h' tk hv st' kk=>?_;have I1:Inv X pins U H { s with heap:=h',toks:=tk }:=I.turned (λb o hb e=>kk b o (~~~hb) e) f0 f1 f3 f4 f5;refine{v,rfl,wpAny_of_eq (a:=()) (by rfl) {f i,H,I1,hP i v hv,⟨rfl,rfl⟩,st',λb hb=>(hf b hb).1} }
 done:=by
  intro X hP' hw hK hc i pins s U H E I hf st hg;subst hP' hw hK;obtain⟨f0,f1,f2,f3,f4,f5⟩:=hf it (by simp);have e:i=n:=hg;subst e;exact(W X.A (I.ok.hd hc)).done s _ _ st λh' tk kk=>{rfl,I.turned (λb o hb e=>kk b o (~~~hb) e) f0 f1 f3 f4 f5}
 self:=λA i s Q E st h=>hself A i s Q E st h
def fQ (z:Str) (i:Nat):V:=.str {#[z.cps.getD i 0]}
theorem j_ {v:Value} (h:SignAt z i v):aY (fQ z i) v:=by
 obtain⟨c,u,h1,h2⟩:=h;subst h2;refine{u,?_};have:z.cps.getD i 0=c:=by rw[Array.getD_eq_getD_getElem?,h1];rfl
 rw[this]
theorem vz {t:Tok} {ty:String} (hty:ty = "str_ascii_iterator" \/ ty = "str_iterator") :
  Turn P w K (.Name x px) (Itf z.cps.size (fQ z)) [it] it (λi h=>h.IsStrIter it ty z t i):=by
 rcases hty with e|e
 ·subst e
  exact jM (λA hA=>Walks.strAscii hA it z t) (λi v h=>j_ h) (λi h st=>let ⟨o,e,_,d⟩:=st;{o,e,λv q=>by rw[d]at q;cases q})
   (λi h h' st k=>let ⟨o,e,r⟩:=st;{o,k o e,r}) λA i s Q E st q=>wpAny_pyIter_striter_ascii st q
 subst e
 exact jM (λA hA=>Walks.strWide hA it z t) (λi v h=>j_ h) (λi h st=>let ⟨o,e,_,d⟩:=st;{o,e,λv q=>by rw[d]at q;cases q})
  (λi h h' st k=>let ⟨o,e,r⟩:=st;{o,k o e,r}) λA i s Q E st q=>wpAny_pyIter_striter_wide st q
section
variable {X:Cx} {x:Str} {px:Pos}
def F8 (tl:TE):TI:=λU H R=>tl U H λv H1=>∃z:Str,v=.str z/\R (Itf z.cps.size (fQ z)) H1
theorem AR {l:Expr} {tl:TE} (hl:PE X l tl):PI X (.Name x px) l (F8 tl):=by
 intro pins s U H R I h;refine thn (hl pins s U H _ I h) λv s1 ⟨y,H1,I1,r1,q1⟩=>?_;obtain⟨z,e,q⟩:=q1;subst e;obtain⟨t,e⟩:=r1;subst e
 have fin:∀ty:String,(ty = "str_ascii_iterator" \/ ty = "str_iterator")->PIE X pins U (.Name x px) R (.ref s1.heap.objs.size) { s1 with heap:=s1.heap.push { cls:=.type ty,data:=.fields #[.str z t,.int 0 0] } }:=λty hty=>by
  refine{s1.heap.objs.size,[s1.heap.objs.size],_,_,H1,rfl,I1.kept (t':=s1.toks) λb o e=>Qd _ e,vz (t:=t) hty,{_,Qr _ rfl,rfl,rfl},λb hb=>?_,q};have e:b=s1.heap.objs.size:=by simpa using hb
  subst e;exact I1.fpOk (Qh _) (I1.hok.fresh (Qh _))
 cases ha:z.cps.all (·<128) with
 | false=>exact wpAny_pyIter_wide ha (fin _ (.inr rfl))
 | true=>exact wpAny_pyIter_ascii ha (fin _ (.inl rfl))
end
section
variable {X:Cx}
def BY:V->Option Int->Option Int->Hp->VK->Prop:=λx lo hi H Q=>∃z:Str,x=.str z/\z.length<=sizeLine/\Q (.str (Txt.slice z lo hi)) H
theorem fc:SlR X BY:=by
 intro pins s U H x v vl vu lo hi sl Q I rx hs pl pu h;obtain⟨z,e,hz,q⟩:=h;subst e;obtain⟨t,e⟩:=rx;subst e;refine{"str", _,F.slot_str_getitem.lookup,typeIs_str _ _ _,?_};have fin:∀(t':Tok) (k:Nat),EP X pins U Q (.str (Txt.slice z lo hi) t') { s with toks:=k }:=λt' k=>{.str _,H,I.tok k,⟨t',rfl⟩,q}
 cases pl with
 | none =>
  cases pu with
  | none=>exact wpAny_getItem_str_slice (l:=none) (u:=none) (st:=none) hs rfl (post_val_or_str {QY (XR z _ _) hz,fin})
  | int j uj=>exact wpAny_getItem_str_slice (l:=none) (u:=-(j,uj)) (st:=none) hs rfl (post_val_or_str {QY (XR z _ _) hz,fin})
 | int i ui =>
 cases pu with
 | none=>exact wpAny_getItem_str_slice (l:=-(i,ui)) (u:=none) (st:=none) hs rfl (post_val_or_str {QY (XR z _ _) hz,fin})
 | int j uj=>exact wpAny_getItem_str_slice (l:=-(i,ui)) (u:=-(j,uj)) (st:=none) hs rfl (post_val_or_str {QY (XR z _ _) hz,fin})
theorem gR:∀{ys:List Str} {us:List Value},ba (ys.map V.str) us->StrsAre us ys
 | [],_,r=>by
  rw[List.map_nil]at r;cases r;exact .nil
 | y::ys,_,r=>by
  rw[QN]at r
  cases r with
  | cons r1 r2 =>
  obtain⟨t,e⟩:=r1;subst e;exact .cons y t (gR r2)
def B0 (K:PySem.W.Frag):V->List V->Hp->VK->Prop:=λx vs H Q=>∃(z:Str) (l:Addr) (ys:List Str),x=.str z/\vs=[.ref l]/\SqL K H l (ys.map V.str)/\(ys.map (·.length)).sum+ys.length*z.length<=16777216/\Q (.str (Txt.join z ys)) H
theorem tD:MtR X "str.join" (B0 X.K):=by
 intro pins s U H x vs v us Q I rx rv h;obtain⟨z,l,ys,e1,e2,hl,hz,q⟩:=h;subst e1 e2;obtain⟨t,e⟩:=rx;subst e;obtain⟨u,e,ru⟩:=rv.one;subst e;cases ru;obtain⟨its,r,pl,_⟩:=I.list hl;exact join_list pl.isList (~~~(gR r)) hz λt' k=>{.str _,H,I.tok k,⟨t',rfl⟩,q}
theorem mQ (ys:List Str):(Txt.join Str.empty ys).cps.toList=(ys.map (·.cps.toList)).flatten:=by
 unfold Txt.join;rw[PySem.StrLaws.glued_eq_join]
 induction ys with
 | nil=>rfl
 | cons y r ih =>
 cases r with
 | nil=>simp[Str.join]
 | cons y2 r2 =>
 show (y++Str.empty++Str.join Str.empty (y2::r2)).cps.toList=_;rw[QN,List.flatten_cons,<-ih];show (y.cps++Str.empty.cps++(Str.join Str.empty (y2::r2)).cps).toList=_;simp[Str.empty]
end
inductive EqD (K:PySem.W.Frag) (H:Hp):Nat->V->V->Bool->Prop
 | flat {n:Nat} {x y:V}:dD x=true->dD y=true->EqD K H n x y (eqV x y)
 | same {n:Nat} {a:Addr}:EqD K H n (.ref a) (.ref a) true
 | lists {n:Nat} {a b:Addr} {xs ys:List V} {e:Nat->Bool}:SqL K H a xs->SqL K H b ys->xs.length=ys.length->(∀(j:Nat) x y,xs[j]?=-x->ys[j]?=-y->EqD K H n x y (e j))->a≠b ->
   EqD K H (n+1) (.ref a) (.ref b) ((List.range xs.length).all e)
 | tups {n:Nat} {a b:Addr} {xs ys:List V} {e:Nat->Bool}:SqT K H a xs->SqT K H b ys->(∀(j:Nat) x y,xs[j]?=-x->ys[j]?=-y->EqD K H n x y (e j))->a≠b ->
   EqD K H (n+1) (.ref a) (.ref b) ((List.range (min xs.length ys.length)).all e&&xs.length==ys.length)
theorem EqD.at {X:Cx} {pins:J5} {U:St} {H:Hp} {s:Shared} (I:Inv X pins U H s) {n:Nat} {x y:V} {b:Bool} (h:EqD X.K H n x y b) :
  ∀{A:Around} {u v:Value},A.units+n<cLine->aY x u->aY y v->SeqAt.EqAt A s u v b:=by
 induction h with
 | flat fx fy=>intro A u v _ rx ry;exact xn rx ry fx fy
 | same =>
  intro A u v _ rx ry;cases rx;cases ry;exact SeqAt.EqAt.same _
 | @lists n a c xs ys e ha hb hl hi hne ih =>
  intro A u v hu rx ry;cases rx;cases ry;obtain⟨its,r1,p1,_⟩:=I.list ha;obtain⟨its2,r2,p2,_⟩:=I.list hb;have l1:=r1.length;have l2:=r2.length;refine SeqAt.EqAt.of_refs hne ?_
  have q:=SeqAt.RcAt.lists (A:=A) (e:=e) p1.isList p2.isList (by rw[Ql,Ql];exact om7 hl l1 l2) ⇑(om8 hu) λj h1 h2=>by
   rw[Ql]at h1 h2;have e1:xs[j]?=some xs[j]:=Qc ⇑(om9 hl l1 l2 h1);have e2:ys[j]?=some ys[j]:=Qc ⇑(IV hl l1 l2 h1);obtain⟨w1,g1,rr1⟩:=r1.get e1;obtain⟨w2,g2,rr2⟩:=r2.get e2
   have g1':its.toArray[j]=w1:=by
    have:=(Qe.mp g1).2;simpa using this
   have g2':its2.toArray[j]=w2:=by
    have:=(Qe.mp g2).2;simpa using this
   rw[g1',g2'];exact ih j _ _ e1 e2 (by show A.units+1+n<cLine;exact FO hu) rr1 rr2
  rw[Ql,<-l1]at q;exact q
 | @tups n a c xs ys e ha hb hi hne ih =>
 intro A u v hu rx ry;cases rx;cases ry;obtain⟨its,r1,p1,_⟩:=I.tuple ha;obtain⟨its2,r2,p2,_⟩:=I.tuple hb;have l1:=r1.length;have l2:=r2.length;refine SeqAt.EqAt.of_refs hne ?_
 have q:=SeqAt.RcAt.tuples (A:=A) (e:=e) (show s.heap.IsTuple a its.toArray from p1) (show s.heap.IsTuple c its2.toArray from p2) ⇑(om8 hu) λj h1 h2=>by
  rw[Ql]at h1 h2;have e1:xs[j]?=some xs[j]:=Qc ⇑(Bh l1 h1);have e2:ys[j]?=some ys[j]:=Qc ⇑(Bh l2 h2);obtain⟨w1,g1,rr1⟩:=r1.get e1;obtain⟨w2,g2,rr2⟩:=r2.get e2
  have g1':its.toArray[j]=w1:=by
   have:=(Qe.mp g1).2;simpa using this
  have g2':its2.toArray[j]=w2:=by
   have:=(Qe.mp g2).2;simpa using this
  rw[g1',g2'];exact ih j _ _ e1 e2 (by show A.units+1+n<cLine;exact FO hu) rr1 rr2
 rw[Ql,Ql,<-l1,<-l2]at q;exact q
section
variable {X:Cx}
theorem EqD.items {pins:J5} {U:St} {H:Hp} {s:Shared} (I:Inv X pins U H s) {n:Nat} {A:Around} (hu:A.units+1+n<cLine) {xs ys:List V} {its its2:List Value} (r1:ba xs its) (r2:ba ys its2) {e:Nat->Bool}
  (h:∀(j:Nat) x y,xs[j]?=-x->ys[j]?=-y->EqD X.K H n x y (e j)) (j:Nat) (h1:j<its.toArray.size) (h2:j<its2.toArray.size):SeqAt.EqAt A.in1 s its.toArray[j] its2.toArray[j] (e j):=by
 have l1:=r1.length;have l2:=r2.length;rw[Ql]at h1 h2;have e1:xs[j]?=some xs[j]:=Qc ⇑(Fw h1 l1);have e2:ys[j]?=some ys[j]:=Qc ⇑(Fw h2 l2);obtain⟨w1,g1,rr1⟩:=r1.get e1;obtain⟨w2,g2,rr2⟩:=r2.get e2
 have g1':its.toArray[j]=w1:=by
  have:=(Qe.mp g1).2;simpa using this
 have g2':its2.toArray[j]=w2:=by
  have:=(Qe.mp g2).2;simpa using this
 rw[g1',g2'];exact EqD.at I (h j _ _ e1 e2) (by show A.units+1+n<cLine;exact hu) rr1 rr2
def rj (K:PySem.W.Frag) (neg:Bool):R2:=λx y H Q=>∃a b xs ys e,x=.ref a/\y=.ref b/\SqL K H a xs/\SqL K H b ys/\(∀(j:Nat) x y,xs[j]?=-x->ys[j]?=-y->EqD K H 8 x y (e j)) /\
 Q (.bl (if neg then !(xs.length==ys.length&&(List.range xs.length).all e) else (xs.length==ys.length&&(List.range xs.length).all e))) H
def B2 (K:PySem.W.Frag) (neg:Bool):R2:=λx y H Q=>∃a b xs ys e,x=.ref a/\y=.ref b/\SqT K H a xs/\SqT K H b ys/\(∀(j:Nat) x y,xs[j]?=-x->ys[j]?=-y->EqD K H 8 x y (e j)) /\
 Q (.bl (if neg then !((List.range (min xs.length ys.length)).all e&&xs.length==ys.length) else ((List.range (min xs.length ys.length)).all e&&xs.length==ys.length))) H
theorem kB (hu:X.A.units+64<cLine):OpR X (compareOp .Eq) (rj X.K false):=by
 intro pins s U H x y v u Q I rx ry h;obtain⟨a,b,xs,ys,e,e1,e2,ha,hb,hi,q⟩:=h;subst e1 e2;cases rx;cases ry;obtain⟨its,r1,p1,_⟩:=I.list ha;obtain⟨its2,r2,p2,_⟩:=I.list hb;have l1:=r1.length;have l2:=r2.length;by_cases hl:xs.length=ys.length
 ·refine SeqAt.eq_listAt (e:=e) p1.isList p2.isList (by rw[Ql,Ql];exact Fj l1 l2 hl) ⇑(wq hu) (EqD.items I ⇑(Bg hu) r1 r2 hi) {.bl _,H,I,rfl,?_};rw[Ql,<-l1];have:(xs.length==ys.length)=true:=by simpa using hl
  rw[this]at q;exact q
 refine SeqAt.eq_list_lengthsAt p1.isList p2.isList (by rw[Ql,Ql,<-l1,<-l2];simpa using hl) ⇑(wq hu) {.bl _,H,I,rfl,?_};have:(xs.length==ys.length)=false:=by simpa using hl
 rw[this]at q;exact q
theorem og (hu:X.A.units+64<cLine):OpR X (compareOp .NotEq) (rj X.K true):=by
 intro pins s U H x y v u Q I rx ry h;obtain⟨a,b,xs,ys,e,e1,e2,ha,hb,hi,q⟩:=h;subst e1 e2;cases rx;cases ry;obtain⟨its,r1,p1,_⟩:=I.list ha;obtain⟨its2,r2,p2,_⟩:=I.list hb;have l1:=r1.length;have l2:=r2.length;by_cases hl:xs.length=ys.length
 ·refine SeqAt.RcNeAt.lists (e:=e) p1.isList p2.isList (by rw[Ql,Ql];exact Fj l1 l2 hl) ⇑(wq hu) (EqD.items I ⇑(Bg hu) r1 r2 hi) _ _ _ _ {.bl _,H,I,rfl,?_};rw[Ql,<-l1];have:(xs.length==ys.length)=true:=by simpa using hl
  rw[this]at q;exact q
 refine SeqAt.RcNeAt.lists_lengths p1.isList p2.isList (by rw[Ql,Ql,<-l1,<-l2];simpa using hl) ⇑(wq hu) _ _ _ _ {.bl _,H,I,rfl,?_};have:(xs.length==ys.length)=false:=by simpa using hl
 rw[this]at q;exact q
theorem A3 (hu:X.A.units+64<cLine):OpR X (compareOp .NotEq) (B2 X.K true):=by
 intro pins s U H x y v u Q I rx ry h;obtain⟨a,b,xs,ys,e,e1,e2,ha,hb,hi,q⟩:=h;subst e1 e2;cases rx;cases ry;obtain⟨its,r1,p1,_⟩:=I.tuple ha;obtain⟨its2,r2,p2,_⟩:=I.tuple hb;have l1:=r1.length;have l2:=r2.length;refine SeqAt.RcNeAt.tuples (e:=e) (show s.heap.IsTuple a its.toArray from p1) (show s.heap.IsTuple b its2.toArray from p2) ⇑(wq hu) (EqD.items I ⇑(Bg hu) r1 r2 hi) _ _ _ _ {.bl _,H,I,rfl,?_};rw[Ql,Ql,<-l1,<-l2];exact q
end
section
variable {X:Cx}
theorem cJ:d6 X (.builtin "isinstance") (λxs H Q=>∃x T ty b,xs=[x,.ty T]/\TyOf X.K H x ty/\PySem.W.kitOne X.K ty (.type T)=-b/\Q (.bl b) H):=by
 intro pins s U H xs us Q I r h;obtain⟨x,T,ty,b,e,t,k,q⟩:=h;subst e;obtain⟨u1,u2,e,r1,r2⟩:=sE r;subst e;cases r2;exact u0 I r1 t k λtk=>{.bl b,H,I.tok tk,rfl,q}
theorem fq {K:PySem.W.Frag} (T:String):PySem.W.kitOne K (.type T) (.type T)=-true:=by
 unfold PySem.W.kitOne;rw[QF (by simp)]
theorem vi (bs:List Bool):(List.range bs.length).all (λi=>bs.getD i false)=bs.all id:=by
 rw[Bool.eq_iff_iff];simp only[QM,List.mem_range]
 constructor
 ·intro h x hx;obtain⟨i,hi,e⟩:=Qo.mp hx;have q:=h i hi;rw[QU,Qc hi,Option.getD_some,e]at q;exact q
 intro h i hi;rw[QU,Qc hi,Option.getD_some];exact h _ (Xo hi)
theorem gh (hc:X.calm=true):d6 X (.builtin "all") (λxs H Q=>∃(l:Addr) (bs:List Bool),xs=[.ref l]/\SqL X.K H l (bs.map V.bl)/\Q (.bl (bs.all id)) H):=by
 intro pins s U H xs us Q I r h;obtain⟨l,bs,e,hl,q⟩:=h;subst e;obtain⟨u,e,ru⟩:=d8 r;subst e;cases ru;obtain⟨its,rv,pl,hz⟩:=I.list hl;have hlen:=rv.length;rw[Qa]at hlen
 have ne:l≠s.heap.objs.size:=by
  obtain⟨o,ho,_⟩:=pl.isList;exact Qz (Qm ho)
 refine call_all_walk (wpAny_pyIter_list pl.isList ?_);refine{s.heap.objs.size,_,_,_,_,_,(λi=>bs.getD i false),rfl,Walks.list (show X.A.in1.handled=none from I.ok.hd hc) s.heap.objs.size l ne its.toArray,{ {_,Qr _ rfl,rfl,rfl},pl.isList.push _},?_,λh' tk hk=>?_}
 ·intro i v s' Q' E' hP hQ;have hP':its[i]?=-v:=by simpa using hP
  have hi:i<bs.length:=by
   have:=(Qe.mp hP').1;exact Bh hlen this
  have e1:(bs.map V.bl)[i]?=-.bl (bs.getD i false):=by
   rw[Qi,Qc hi,QU,Qc hi];rfl
  obtain⟨u,hu,ru⟩:=rv.get e1;rw[hP']at hu;cases hu;cases ru;exact wpAny_truthy_bool hQ
 have hs:its.toArray.size=bs.length:=by rw[Ql];exact hlen.symm
 rw[hs,vi]
 exact{.bl _,H,I.kept λb o e=>hk b o (by
  have:=Qm e;simp only[Qu]
  exact Qz this) (Qd _ e),rfl,q}
abbrev sH (K:PySem.W.Frag) (T:Addr) (D:List (Str × KTD.Dat)):Prop:=KTD.tabLook (KTD.datLooks λa=>K.lookup a) (λa=>K.lookup a) T D=true
theorem uA {T:Addr} {D:List (Str × KTD.Dat)} (hT:sH X.K T D):OpR X (compareOp .In) (λx y H Q=>∃z,x=.str z/\y=.ref T/\Q (.bl (KTD.inKeys z D)) H):=by
 intro pins s U H x y v u Q I rx ry h;obtain⟨z,e1,e2,q⟩:=h;subst e1 e2;obtain⟨t,e⟩:=rx;subst e;cases ry;exact KTD.in_text (h₀:=X.base) {KTD.text_of_look (get:=λa=>X.K.lookup a) (λa o e=>I.mod.kin a o e) hT,I.bk} {.bl _,H,I.tok _,rfl,q}
theorem rq:OpR X (binaryOp .Mult) (λx y H Q=>∃z n,x=.str z/\y=.int n/\MulOk z n/\Q (.str (Txt.mul z n)) H):=by
 intro pins s U H x y v u Q I rx ry h;obtain⟨z,n,e1,e2,hm,q⟩:=h;subst e1 e2;obtain⟨t,e⟩:=rx;subst e;obtain⟨t',e⟩:=ry;subst e;exact SB.mul hm λt' k=>{.str _,H,I.tok k,⟨t',rfl⟩,q}
theorem mf:d6 X (.type "int") (λxs H Q=>∃z n,xs=[.str z]/\PySem.intText? z=-n/\z.length<=640/\Q (.int n) H):=by
 intro pins s U H xs us Q I r h;obtain⟨z,n,e,h1,h2,q⟩:=h;subst e;obtain⟨u,e,ru⟩:=d8 r;subst e;obtain⟨t,e⟩:=ru;subst e;exact PySem.W.KIN.call_text h1 h2 {.int n,H,I.tok _,⟨_,rfl⟩,q}
end
theorem Inv.turned2 {X:Cx} {pins:J5} {U:St} {H:Hp} {s:Shared} {h':Heap} {t':Nat} {o:HO} (I:Inv X pins U H s) (k:∀b o,b≠e->b≠it->s.heap.get? b=-o->h'.get? b=-o)
  (f1:ie X pins H e) (f2:ie X pins H it) (hT:s.heap.objs.size<=T) (new:bG X.prog X.w (upd H T o) h' T o):Inv X pins U (upd H T o) { s with heap:=h',toks:=t' }:=by
 have hn:H T=none:=I.hok.fresh hT;have nT:∀b u,s.heap.get? b=-u->b≠T:=λb u q=>Qz (QG (Qm q) hT);have n1:∀b u,H b=-u->b≠e:=λb u q z=>by rw[z,f1.1]at q;cases q
 have n2:∀b u,H b=-u->b≠it:=λb u q z=>by rw[z,f2.1]at q;cases q
 have kk:∀b u,b∉[e,it]->s.heap.get? b=-u->h'.get? b=-u:=λb u hc q=>k b u (λz=>hc (by simp[z])) (λz=>hc (by simp[z])) q
 refine I.step (g':=s.gens) (d':=s.drawn) (ch:=[e,it]) (λb hb=>?_) (λb u _ _ hc q _=>kk b u hc q) (λb u _ _ hc q _=>{u.slots,kk b u hc q}) (λb u _ q n=>by rw[am (nT b u q)];exact n)
  (λb u hc q=>{u,kk b u hc q}) (λb xs q=>by rw[am (aG q hn)];exact q) (λb u xs q=>by rw[am (aG q hn)];exact q) (λb ps q=>{#[],by rw[am (aG q hn),q];simp}) (λm hm=>?_) (λb u q=>?_) I.bare
 ·have z:b=e\/b=it:=by simpa using hb
  rcases z with z|z
  ·subst z;obtain⟨_,a2,_,a4,a5,a6⟩:=f1;exact⟨a4,a2,a5,a6⟩
  subst z;obtain⟨_,a2,_,a4,a5,a6⟩:=f2;exact⟨a4,a2,a5,a6⟩
 ·obtain⟨ob,es,ep,ho,r⟩:=hm;exact{ob,es,ep,k _ ob (XJ f1.2.1) (XJ f2.2.1) ho,r}
 by_cases hb:b=T
 ·subst hb;rw[ae]at q;cases q;exact new
 rw[am hb]at q;refine(I.hok b u q).stay (λc v hc z=>k c v ?_ ?_ z) (λc z=>by rw[am (aG z hn)];exact z) λc xs z=>by rw[am (aG z hn)];exact z
 ·rcases hc with z|z
  ·rw[z];exact n1 b u q
  exact n1 c _ z
 rcases hc with z|z
 ·rw[z];exact n2 b u q
 exact n2 c _ z
noncomputable def Ite (K:PySem.W.Frag) (a:Addr):It :=
 {λi H=>∃xs x,SqL K H a xs/\xs[i]?=-x,λi H x H'=>∃T v,H T=none/\x=.ref T/\H'=upd H T (.tup [.int (i:Nat),v])/\∀xs,SqL K H a xs->xs[i]?=-v,λi H=>∃xs,SqL K H a xs/\xs.length<=i}
theorem ue {elts:List Expr} {k:Nat} (a e it:Addr) (hne:e≠it) :
  Turn P w K (.Tuple elts k pos) (Ite K a) [e,it] e (λi h=>(∃old,IsEnum h e it (i:Nat) old)/\h.IsListIter it a i) where
 mem:=by simp
 obj:=λi h st b hb=>by
  obtain⟨⟨old,he⟩,o,ho,hc,hd⟩:=st;have z:b=e\/b=it:=by simpa using hb
  rcases z with z|z
  ·subst z
   exact{_,he,λv q=>by
    have q':Data.fields _=Data.cell v:=q
    cases q'}
  subst z;exact{o,ho,λv q=>by rw[hd]at q;cases q}
 keep:=λi h h' st kk=>by
  obtain⟨⟨old,he⟩,hl⟩:=st;exact{ {old,kk e (by simp) _ he},hl.at λo q=>kk it (by simp) o q}
 item:=by
  intro X hP hw hK hc i pins s U H E I hf st hg;subst hP hw hK;obtain⟨xs,x,hq,hx⟩:=hg;obtain⟨its,rv,p,hz⟩:=I.list hq;obtain⟨u,hu,ru⟩:=rv.get hx;obtain⟨⟨old,he⟩,hl⟩:=st;have f1:=hf e (by simp);have f2:=hf it (by simp);refine wpAny_pyNext_enum_item he hl p.isList (x:=u) (~~~hu) hne λh1 a1 a2 a3 a4 a5=>{_,rfl,?_};refine wpAny_letOwnedTupleGo_enum a1 λh2 b1 b2=>?_
  have nTe:s.heap.objs.size≠e:=λz=>by
   have q:=Qm (show s.heap.get? e=-_ from he);rw[<-z]at q;exact Nat.lt_irrefl _ q
  have keep2:∀b o,b≠e->b≠it->s.heap.get? b=-o->h2.get? b=-o:=λb o n1 n2 q=>b2.extBut b o n1 (a5 b o n1 n2 q);have tup2:h2.get? s.heap.objs.size=some { cls:=.type "tuple", data:=.seq #[.int i s.toks,u] }:=b2.extBut _ _ nTe a3
  have I2:Inv X pins U (upd H s.heap.objs.size (.tup [.int (i:Nat),x])) { s with heap:=h2,toks:=s.toks+1 } :=
   I.turned2 keep2 f1 f2 (Qh _) {(by show 2<=sizeLine;decide),[.int i s.toks,u],.cons ⟨_,rfl⟩ (.cons ru .nil),⟨_,tup2,rfl,_,rfl⟩}
  refine{.ref s.heap.objs.size,_,I2,rfl,{s.heap.objs.size,x,I.hok.fresh (Qh _),rfl,rfl,λys hy=>by rw[I.list_inj hy hq];exact hx},{ {u,?_},(a2.extBut b2.extBut (XJ hne))},λb hb=>?_}
  ·have q:IsEnum h2 e it ((i:Int)+1) u:=b1;have c:(((i+1:Nat):Nat):Int)=(i:Int)+1:=by omega
   rw[c];exact q
  have z:b=e\/b=it:=by simpa using hb
  have nT:b≠s.heap.objs.size:=by
   rcases z with z|z
   ·rw[z];exact XJ nTe
   rw[z];obtain⟨o,ho,_⟩:=hl;exact Qz (Qm ho)
  rw[am nT];exact(hf b hb).1
 done:=by
  intro X hP hw hK hc i pins s U H E I hf st hg;subst hP hw hK;obtain⟨xs,hq,hx⟩:=hg;obtain⟨its,rv,p,hz⟩:=I.list hq;obtain⟨⟨old,he⟩,hl⟩:=st;obtain⟨f0,f1,f2,f3,f4,f5⟩:=hf it (by simp);have hlen:=rv.length;exact wpAny_pyNext_enum_end (I.ok.hd hc) he hl p.isList (by simp;exact om4 hx hlen) λh' eb=>{rfl,I.turned (t':=s.toks) (λb o hb q=>eb b o hb q) f0 f1 f3 f4 f5}
 self:=λ_ _ _ _ _ st h=>by
  obtain⟨⟨old,he⟩,_⟩:=st;exact wpAny_pyIter_enum he h
section
variable {X:Cx} {elts:List Expr} {k:Nat} {tpos:Pos}
def F_ (K:PySem.W.Frag) (ta:TA):TI:=λU H R=>ta U H λvs H1=>∃a,vs=[.ref a]/\(∃xs,SqL K H1 a xs)/\R (Ite K a) H1
theorem s_ {a:Expr} {ta:TA} {p pos:Pos} (hg:Gl X "enumerate") (hm:X.mg "enumerate" = none) (ha:PA X [a] ta) (hs:starEach [a] X.env=[(false,eval a X.env)]:=by rfl):PI X (.Tuple elts k tpos) (.Call (.Name "enumerate" p) [a] [] pos) (F_ X.K ta):=by
 intro pins s U H R I h;refine Call_ (d7 I hg hm boot_enumerate (Xf (thn (ha pos pins s U H _ I h) λus s1 ⟨vs,H1,I1,r1,q1⟩=>?_) hs rfl));obtain⟨l,e,⟨xs,hq⟩,q⟩:=q1;subst e
 cases r1 with
 | cons r rr =>
 cases rr;cases r;obtain⟨its,rv,pl,hz⟩:=I1.list hq;refine call_enumerate_list pl.isList λh' b1 b2 b3 b4=>?_;refine wpAny_pyIter_enum b1 ?_;have I2:Inv X pins U H1 { s1 with heap:=h' }:=I1.kept (t':=s1.toks) b4;refine{s1.heap.objs.size+1,[s1.heap.objs.size+1,s1.heap.objs.size],_,_,H1,rfl,I2,ue l (s1.heap.objs.size+1) s1.heap.objs.size (by show @Ne Nat _ _;exact om5),{⟨_,b1⟩,b2},λb hb=>?_,q};have z:b=s1.heap.objs.size+1\/b=s1.heap.objs.size:=by simpa using hb
 have hle:s1.heap.objs.size<=b:=by
  rcases z with z|z
  ·rw[z];exact Nat.le_succ _
  rw[z];exact Qh _
 exact I1.fpOk hle (I1.hok.fresh hle)
end
theorem qF {xs:List V} {g:TG} {tb:TS} {D:Ends} {U:St} {H:Hp} (Pv:Nat->St->Hp->Prop) (h0:Pv 0 U H) (hl:∀i U H,i<=xs.length->Pv i U H->SqL K H a xs)
  (hs:∀i x U H T,xs[i]?=-x->Pv i U H->H T=none->g (.ref T) U (upd H T (.tup [.int (i:Nat),x])) λσ2 H2=>tb { D with nx:=Pv (i+1),ct:=Pv (i+1),bk:=D.nx } σ2 H2) (hd:∀U H,Pv xs.length U H->D.nx U H) :
  ∃W:Nat->Nat->St->Hp->Prop,(∃m,W 0 m U H)/\∀i m U H,W i m U H ->
   ((Ite K a).stop i H/\D.nx U H)\/((Ite K a).go i H/\∃N:St->Hp->Prop,(∀σ' H',N σ' H'->∃m',m'<m/\W (i+1) m' σ' H')/\∀x H',(Ite K a).yld i H x H'->g x U H' λσ2 H2=>tb { D with nx:=N,ct:=N,bk:=D.nx } σ2 H2):=by
 refine{λi m U H=>m=xs.length-i/\i<=xs.length/\Pv i U H,{xs.length,by simp,QB _,h0},?_};rintro i m U H ⟨rfl,hi,p⟩;have q:=hl i U H hi p;by_cases hlt:i<xs.length
 ·refine .inr { {xs,xs[i],q,by simp[hlt]},Pv (i+1),λσ' H' p'=>{xs.length-(i+1),⇑(om6 hlt),rfl,hlt,p'},λx H' y=>?_};obtain⟨T,v,hT,ex,eH,y⟩:=y;subst ex eH;exact hs i v U H T (y xs q) p hT
 have e:i=xs.length:=by exact om0 hi hlt
 subst e;exact .inl { {xs,q,Qh _},hd U H p}
structure Fn (P:Program) (w:World) (K:PySem.W.Frag) (mg:J6) (base:Heap) (x:Str) (ps:List Str) (k:Nat) (sp:Sp):Prop where
 ex:∃f fd,FnOk P w K mg base CX0 k f fd ps sp/\mg x=-.ref f/\PySem.W.keepIn K (.ref f)=true/\gN K fd ps []
section
variable {X:Cx}
theorem gF {x:Str} {ps:List Str} {k:Nat} {sp:Sp} {e:Expr} {es:List Expr} {t:TA} {p pos:Pos} (F:Fn X.prog X.w X.K X.mg X.base x ps k sp) (hr:Room k X.A) (hg:Gl X x) (ha:PA X (e::es) t)
  (hdb:(x==("__debug__" : Str))=false:=by decide) (he:starEach (e::es) X.env=(false,eval e X.env)::starEach es X.env:=by rfl) (hpl:(backTo pos (starEach es X.env)).any (·.1)=false:=by rfl) :
  PE X (.Call (.Name x p) (e::es) [] pos) (i8 sp [] E0 t):=by
 obtain⟨f,fd,G,hm,hk,hb⟩:=F.ex;exact yc G hr hg hm hk hb .nil zD ha hdb he hpl
theorem a8 {x:Str} {ps:List Str} {k j:Nat} {sp:Sp} {e:Expr} {es:List Expr} {t:TA} {p pos:Pos} (F:Fn X.prog X.w X.K X.mg X.base x ps k sp) (hr:Room j X.A) (ha:PA X (e::es) t) (hk:k<=j:=by first|decide|omega) (hg:Gl X x:=by rfl) (hdb:(x==("__debug__" : Str))=false:=by decide) (he:starEach (e::es) X.env=(false,eval e X.env)::starEach es X.env:=by rfl) (hpl:(backTo pos (starEach es X.env)).any (·.1)=false:=by rfl):PE X (.Call (.Name x p) (e::es) [] pos) (i8 sp [] E0 t):=gF F (hr.mono hk) hg ha hdb he hpl
end
section
variable {U:St} {H:Hp} {Q:VK} {K:PySem.W.Frag}
variable {v x y:V}
theorem ai {i:Nat} (h:U[i]?=- -v) (q:Q v H):bY i U H Q:=⟨v,h,q⟩
theorem i_c (q:Q v H):tC v U H Q:=q
variable {ta tb te ti tl:TE}
theorem aO {r:R2} (q:ta U H λx H1=>tb U H1 λy H2=>r x y H2 Q):tOp r ta tb U H Q:=q
variable {i j:Int}
theorem b_ {g:Int->Int->V} (q:Q (g i j) H):rI0 g (.int i) (.int j) H Q:=⟨i,j,rfl,rfl,q⟩
theorem cZ {C:Int->Int->Prop} {g:Int->Int->V} (c:C i j) (q:Q (g i j) H):rI C g (.int i) (.int j) H Q:=⟨i,j,rfl,rfl,c,q⟩
theorem i_eq (h:xV x y=true) (q:Q (.bl (decide (x=y))) H):rEq x y H Q:=⟨h,q⟩
theorem i_ne (h:xV x y=true) (q:Q (.bl (!decide (x=y))) H):rNe x y H Q:=⟨h,q⟩
variable {R:Bool->Hp->Prop}
theorem i_test {t:TE} (q:t U H λx H'=>∃k,x=.bl k/\R k H'):y_ t U H R:=q
theorem i_tB {t:TE} (q:t U H λx H'=>∃k,x=.bl k/\R k H'):tB t U H R:=q
theorem i_and {t u:TT} (q:t U H λc H1=>if c=true then u U H1 R else R false H1):BW t u U H R:=q
theorem i_or {t u:TT} (q:t U H λc H1=>if c=true then R true H1 else u U H1 R):tOr t u U H R:=q
theorem i_not {t:TT} (q:t U H λc H1=>R (!c) H1):BN t U H R:=q
theorem i_andV (q:ta U H λx H1=>∃c,x=.bl c/\if c=true then tb U H1 Q else Q (.bl false) H1):zg ta tb U H Q:=q
theorem i_orV (q:ta U H λx H1=>∃c,x=.bl c/\if c=true then Q (.bl true) H1 else tb U H1 Q):BL ta tb U H Q:=q
theorem i_notV (q:ta U H λx H1=>∃c,x=.bl c/\Q (.bl (!c)) H1):za ta U H Q:=q
theorem i_ifE {t:TT} (q:t U H λc H1=>if c=true then ta U H1 Q else tb U H1 Q):tIf t ta tb U H Q:=q
theorem aB {R:List V->Hp->Prop} (q:R [] H):eL U H R:=q
variable {tr t:TA}
theorem ak {R:List V->Hp->Prop} (q:te U H λx H1=>tr U H1 λxs H2=>R (x::xs) H2):bp te tr U H R:=q
theorem bP {sp:Sp} {E:XK} (q:t U H λvs H1=>sp vs H1 Q E):i8 sp [] E t U H Q:=by
 show t U H λvs H1=>sp (vs++[]) H1 Q E;simpa only[List.append_nil] using q
theorem c7 {r:List V->Hp->VK->Prop} (q:t U H λvs H1=>r vs H1 Q):tCB r t U H Q:=q
theorem i_tup (q:t U H λxs H1=>xs.length<=sizeLine/\∀p,H1 p=none->Q (.ref p) (upd H1 p (.tup xs))):nr t U H Q:=q
theorem cw (q:t U H λxs H1=>xs.length<=sizeLine/\∀p,H1 p=none->Q (.ref p) (upd H1 p (.lst xs))):vA t U H Q:=q
theorem i_bm {T:String} {r:V->List V->Hp->VK->Prop} {to:TE} (q:to U H λx H1=>tyV K T x H1/\t U H1 λxs H2=>r x xs H2 Q):tBM K T r to t U H Q:=q
theorem i_sl {r:V->Option Int->Option Int->Hp->VK->Prop} {tl th:TO} (q:te U H λx H1=>tl U H1 λl H2=>th U H2 λu H3=>r x l u H3 Q):tSl r te tl th U H Q:=q
theorem i_nopart {R:Option Int->Hp->Prop} (q:R none H):nv U H R:=q
theorem i_part {t:TE} {R:Option Int->Hp->Prop} (q:t U H λx H1=>∃i,x=.int i/\R (-i) H1):sI t U H R:=q
theorem tO {R:Option Int->Hp->Prop} (q:R (-i) H):∃j,V.int i=.int j/\R (-j) H:=⟨i,rfl,q⟩
variable {xs:List V}
theorem bh {p:Addr} {v:V} (h:SqL K H p xs) (e:atI xs i=-v) (q:Q v H):rh K (.ref p) (.int i) H Q:=⟨p,xs,i,v,rfl,rfl,h,e,q⟩
theorem i_ixT {p:Addr} (h:H p=-.tup xs) (e:atI xs i=-v) (q:Q v H):pV K (.ref p) (.int i) H Q:={p,xs,i,v,rfl,rfl,SqT.of h,e,q}
theorem gK {z:Str} {c:Nat} (hz:z.length<=sizeLine) (e:atI z.cps.toList i=-c) (q:Q (.str {#[c]}) H):B1 (.str z) (.int i) H Q:=⟨z,i,c,rfl,rfl,hz,e,q⟩
variable {D:Ends}
theorem s_seq {t u:TS} (q:t { D with nx:=u D } U H):xQ t u D U H:=q
theorem bj {g:TG} (q:te U H λx H1=>g x U H1 D.nx):uh te g D U H:=q
theorem au {i:Nat} {R:St->Hp->Prop} (q:R (U.set i (-v)) H):eU i v U H R:=q
theorem s_drop (q:te U H λ_ H1=>D.nx U H1):zd te D U H:=q
theorem bH {te:TE} (q:te U H D.rt):BK te D U H:=q
theorem s_next (q:D.nx U H):zb D U H:=q
theorem s_if {c:TT} {t u:TS} (q:c U H λb H1=>if b=true then t D U H1 else u D U H1):BP c t u D U H:=q
theorem s_sub {to:TE} {t:yU} {R:St->Hp->Prop} (q:to U H λo H1=>ti U H1 λi H2=>t o i v H2 λH3=>R U H3):Ga to ti t v U H R:=q
theorem s_setL {p:Addr} {k:Int} {j:Nat} {R:Hp->Prop} (h:H p=-.lst xs) (e:ixN xs.length k=-j) (q:R (upd H p (.lst (xs.set j v)))):zp (.ref p) (.int k) v H R:=⟨p,xs,k,j,rfl,rfl,h,e,q⟩
theorem s_for {wi:TI} {g:TG} {tb:TS} (q:wi U H λJ H1=>∃W:Nat->Nat->St->Hp->Prop,(∃m,W 0 m U H1)/\∀i m U H,W i m U H ->
 (J.stop i H/\D.nx U H)\/(J.go i H/\∃N:St->Hp->Prop,(∀σ' H',N σ' H'->∃m',m'<m/\W (i+1) m' σ' H')/\∀x H',J.yld i H x H'->g x U H' λσ2 H2=>tb { D with nx:=N,ct:=N,bk:=D.nx } σ2 H2)):BR wi g tb D U H:=q
theorem s_rng1 {ta:TA} {R:It->Hp->Prop} (q:ta U H λvs H1=>∃j:Int,vs=[.int j]/\(unop% Neg.neg (2 ^ 62))<=j/\j<2 ^ 62/\R (Itr 0 j.toNat) H1):As ta U H R:=q
theorem s_list {R:It->Hp->Prop} (q:tl U H λx H1=>∃a,x=.ref a/\(∃xs,SqL K H1 a xs)/\R (Itl K a) H1):mP K tl U H R:=q
theorem s_str {R:It->Hp->Prop} (q:tl U H λv H1=>∃z:Str,v=.str z/\R (Itf z.cps.size (fQ z)) H1):F8 tl U H R:=q
theorem bS {wi:TI} {g:TG} {tt:TT} {f:St->St} (q:wi U H λJ H1=>∀D,H1 D=none->∃W:Nat->Nat->Hp->List V->Prop,(∃m,W 0 m (upd H1 D (.lst [])) []) /\
 ∀i m H ys,W i m H ys->H D=-.lst ys/\((J.stop i H/\Q (.ref D) H)\/(J.go i H/\∀x H',J.yld i H x H'->g x (f U) H' λσ2 H2=>wk (f U) σ2/\tt σ2 H2 λb H3 =>
  if b=true then te σ2 H3 λv H4=>H4 D=-.lst ys/\ys.length<sizeLine/\∃m',m'<m/\W (i+1) m' (upd H4 D (.lst (ys++[v]))) (ys++[v])
  else ∃m',m'<m/\W (i+1) m' H3 ys))):i7 wi g tt te f U H Q:=q
end
def b9 (Pv:Nat->Hp->List V->Prop) (n:Nat) (D:Addr) (i:Nat) (ys:List V):VK:=λv H4=>H4 D=-.lst ys/\ys.length<sizeLine/\∃m',m'<n-i/\(m'=n-(i+1)/\i+1<=n/\Pv (i+1) (upd H4 D (.lst (ys++[v]))) (ys++[v]))
theorem b9.mk {Pv:Nat->Hp->List V->Prop} {D:Addr} {ys:List V} {v:V} {H4:Hp} (hd:H4 D=-.lst ys) (hi:i<n) (hl:ys.length<sizeLine) (p:Pv (i+1) (upd H4 D (.lst (ys++[v]))) (ys++[v])):b9 Pv n D i ys v H4 :=
 {hd,hl,n-(i+1),⇑(om6 hi),rfl,hi,p}
section
variable {K:PySem.W.Frag} {g:TG} {te:TE} {σ0:St} {QD:Hp->Prop} {H1:Hp} {D:Addr}
theorem fK {lo:Int} {n:Nat} (Pv:Nat->Hp->List V->Prop) (h0:Pv 0 (upd H1 D (.lst [])) []) (hD:∀i H ys,Pv i H ys->H D=-.lst ys)
  (hs:∀i H ys,i<n->Pv i H ys->g (.int (lo+i)) σ0 H λσ2 H2=>wk σ0 σ2/\gP σ2 H2 λb H3=>if b=true then te σ2 H3 (b9 Pv n D i ys) else ∃m',m'<n-i/\(m'=n-(i+1)/\i+1<=n/\Pv (i+1) H3 ys)) (hd:∀H ys,Pv n H ys->QD H) :
  ∃W:Nat->Nat->Hp->List V->Prop,(∃m,W 0 m (upd H1 D (.lst [])) [])/\∀i m H ys,W i m H ys->H D=-.lst ys/\(((Itr lo n).stop i H/\QD H)\/((Itr lo n).go i H/\∀x H',(Itr lo n).yld i H x H'->g x σ0 H' λσ2 H2=>wk σ0 σ2/\gP σ2 H2 λb H3 =>
   if b=true then te σ2 H3 λv H4=>H4 D=-.lst ys/\ys.length<sizeLine/\∃m',m'<m/\W (i+1) m' (upd H4 D (.lst (ys++[v]))) (ys++[v]) else ∃m',m'<m/\W (i+1) m' H3 ys)):=by
 refine{λi m H ys=>m=n-i/\i<=n/\Pv i H ys,{n,by simp,QB _,h0},?_};rintro i m H ys ⟨rfl,hi,p⟩;refine{hD i H ys p,?_};by_cases hlt:i<n
 ·refine .inr {hlt,λx H' y=>?_};obtain⟨e,y⟩:=y;subst e y;exact hs i _ ys hlt p
 have e:i=n:=by exact om0 hi hlt
 subst e;exact .inl {Qh _,hd H ys p}
theorem bU {a:Addr} {xs:List V} (Pv:Nat->Hp->List V->Prop) (h0:Pv 0 (upd H1 D (.lst [])) []) (hD:∀i H ys,Pv i H ys->H D=-.lst ys/\SqL K H a xs)
  (hs:∀i x H ys,xs[i]?=-x->Pv i H ys->g x σ0 H λσ2 H2=>wk σ0 σ2/\gP σ2 H2 λb H3=>if b=true then te σ2 H3 (b9 Pv xs.length D i ys) else ∃m',m'<xs.length-i/\(m'=xs.length-(i+1)/\i+1<=xs.length/\Pv (i+1) H3 ys)) (hd:∀H ys,Pv xs.length H ys->QD H) :
  ∃W:Nat->Nat->Hp->List V->Prop,(∃m,W 0 m (upd H1 D (.lst [])) [])/\∀i m H ys,W i m H ys->H D=-.lst ys/\(((Itl K a).stop i H/\QD H)\/((Itl K a).go i H/\∀x H',(Itl K a).yld i H x H'->g x σ0 H' λσ2 H2=>wk σ0 σ2/\gP σ2 H2 λb H3 =>
   if b=true then te σ2 H3 λv H4=>H4 D=-.lst ys/\ys.length<sizeLine/\∃m',m'<m/\W (i+1) m' (upd H4 D (.lst (ys++[v]))) (ys++[v]) else ∃m',m'<m/\W (i+1) m' H3 ys)):=by
 refine{λi m H ys=>m=xs.length-i/\i<=xs.length/\Pv i H ys,{xs.length,by simp,QB _,h0},?_};rintro i m H ys ⟨rfl,hi,p⟩;obtain⟨d1,d2⟩:=hD i H ys p;refine{d1,?_};by_cases hlt:i<xs.length
 ·refine .inr { {xs,xs[i],d2,by simp[hlt]},λx H' y=>?_};obtain⟨e,y⟩:=y;subst e;exact hs i x _ ys (y xs d2) p
 have e:i=xs.length:=by exact om0 hi hlt
 subst e;exact .inl { {xs,d2,Qh _},hd H ys p}
theorem xv {n:Nat} {f:Nat->V} (Pv:Nat->Hp->List V->Prop) (h0:Pv 0 (upd H1 D (.lst [])) []) (hD:∀i H ys,Pv i H ys->H D=-.lst ys)
  (hs:∀i H ys,i<n->Pv i H ys->g (f i) σ0 H λσ2 H2=>wk σ0 σ2/\gP σ2 H2 λb H3=>if b=true then te σ2 H3 (b9 Pv n D i ys) else ∃m',m'<n-i/\(m'=n-(i+1)/\i+1<=n/\Pv (i+1) H3 ys)) (hd:∀H ys,Pv n H ys->QD H) :
  ∃W:Nat->Nat->Hp->List V->Prop,(∃m,W 0 m (upd H1 D (.lst [])) [])/\∀i m H ys,W i m H ys->H D=-.lst ys/\(((Itf n f).stop i H/\QD H)\/((Itf n f).go i H/\∀x H',(Itf n f).yld i H x H'->g x σ0 H' λσ2 H2=>wk σ0 σ2/\gP σ2 H2 λb H3 =>
   if b=true then te σ2 H3 λv H4=>H4 D=-.lst ys/\ys.length<sizeLine/\∃m',m'<m/\W (i+1) m' (upd H4 D (.lst (ys++[v]))) (ys++[v]) else ∃m',m'<m/\W (i+1) m' H3 ys)):=by
 refine{λi m H ys=>m=n-i/\i<=n/\Pv i H ys,{n,by simp,QB _,h0},?_};rintro i m H ys ⟨rfl,hi,p⟩;refine{hD i H ys p,?_};by_cases hlt:i<n
 ·refine .inr {hlt,λx H' y=>?_};obtain⟨e,y⟩:=y;subst e y;exact hs i _ ys hlt p
 have e:i=n:=by exact om0 hi hlt
 subst e;exact .inl {rfl,hd H ys p}
end
section
variable {H:Hp} {Q:VK} {K:PySem.W.Frag}
theorem jf {z:Str} {lo hi:Option Int} (h:z.length<=sizeLine) (q:Q (.str (Txt.slice z lo hi)) H):BY (.str z) lo hi H Q:=⟨z,rfl,h,q⟩
variable {xs zs:List V} {a p l b:Addr}
theorem jg {lo hi:Option Int} (h:SqL K H a xs) (q:∀p,H p=none->Q (.ref p) (upd H p (.lst (fS xs lo hi)))):AM K (.ref a) lo hi H Q:=⟨a,xs,rfl,h,q⟩
theorem I0 {x:V} (h:SqL K H p xs) (fx:dD x=true) (fs:xs.all dD=true) (q:Q (.bl (inV x xs)) H):rIn K false x (.ref p) H Q:={p,xs,rfl,.inl h,fx,fs,q}
theorem gL (h1:H l=-.lst xs) (h2:H b=-.lst zs) (hz:xs.length+zs.length<=sizeLine) (q:∀p,H p=none->Q (.ref p) (upd H p (.lst (xs++zs)))):xW (.ref l) (.ref b) H Q:=⟨l,b,xs,zs,rfl,rfl,h1,h2,hz,q⟩
theorem d9 {y:V} (h:H l=-.lst xs) (hz:xs.length<sizeLine) (q:Q .non (upd H l (.lst (xs++[y])))):nX (.ref l) [y] H Q:=⟨l,xs,y,rfl,rfl,h,hz,q⟩
theorem i_tyL (h:H p=-.lst xs):tyV K "list" (.ref p) H:=.inl {rfl,xs,SqL.of h}
theorem F3 {z:Str}:tyV K "str" (.str z) H:=rfl
end
theorem ag {H:Hp} {o:HO} (hp:H p=none):ao H (upd H p o):=λb u e=>by rw[am (aG e hp)];exact e
end L2
namespace L2
open PySem
section
variable {U:St} {H:Hp} {D:Ends}
theorem s_seqT {t u:TS} (q:let D':Ends:={ D with nx:=u D };t D' U H):xQ t u D U H:=q
theorem s_nameT {i:Nat} {v:V} {R:St->Hp->Prop} (q:let σ':St:=U.set i (-v);R σ' H):eU i v U H R:=q
end
variable {H:Hp}
theorem i_yes {U:St} {R:Bool->Hp->Prop} (q:R true H):gP U H R:=q
theorem i_dget {td ty:TE} {U:St} {Q:VK} (q:td U H λx H1=>ty U H1 λy H2=>∃a v,x=.ref a/\cO H2 a y (-v)/\Q v H2):ze td ty U H Q:=q
theorem i_un {r:V->Hp->VK->Prop} {ta:TE} {U:St} {Q:VK} (q:ta U H λx H1=>r x H1 Q):tUn r ta U H Q:=q
theorem i_rU {g:Int->V} {i:Int} {Q:VK} (q:Q (g i) H):rU g (.int i) H Q:=⟨i,rfl,q⟩
end L2
namespace L2
open PySem PySem.Spec PyProof.Rows
def ed (H:Hp) (c:Addr):Hp:=λb=>if b=c then none else H b
variable {c b f cell fa a T:Addr} {H:Hp}
theorem dP:ed H c c=none:=QF rfl
theorem bQ (h:b≠c):ed H c b=H b:=QE h
theorem u_ {o:HO} (h:ed H c b=-o):b≠c/\H b=-o:=by
 by_cases e:b=c
 ·subst e;rw[dP]at h;cases h
 rw[bQ e]at h;exact⟨e,h⟩
def cT (o:Obj):HO:=.frz o (.ext λ_=>True)
section
variable {P:Program} {w:World} {H H1:Hp} {h h1:Heap} {c:Addr} {o:Obj} {fs ex:J7}
theorem oQ {H:Hp} (e:h.get? c=-o):bG P w H h c (cT o):={e,trivial,⟨o,e⟩,λ_ _ _ _=>trivial}
theorem HOk.drop (x:HOk P w H h) (hc:H c=-cT o):HOk P w (ed H c) h:=λb u e=>by
 obtain⟨_,e⟩:=u_ e;refine(x b u e).stay (λ_ _ _ q=>q) (λd q=>?_) λd xs q=>?_
 ·rw[bQ];exact q;intro z;subst z;rw[hc]at q;cases q
 rw[bQ];exact q;intro z;subst z;rw[hc]at q;cases q
theorem HOk.take (x:HOk P w H h) (hc:H c=none) (e:h.get? c=-o):HOk P w (upd H c (cT o)) h:=λb u q=>by
 by_cases hb:b=c
 ·subst hb;rw[ae]at q;cases q;exact oQ e
 rw[am hb]at q;refine(x b u q).stay (λ_ _ _ r=>r) (λd r=>?_) λd xs r=>?_
 ·rw[am (aG r hc)];exact r
 rw[am (aG r hc)];exact r
theorem Un.back (u:Un fs ex (ed H c) H1 h h1) (hc:H c=-cT o) (e:h.get? c=-o) (nf:c∉fs) (nx:c∉ex):Un fs ex H (upd H1 c (cT o)) h h1/\H1 c=none/\h1.get? c=-o:=by
 have h1c:=u.free c o e dP nx;have e1:=u.keep c o e dP nf nx;have ne:∀{b v},H b=-v->v≠cT o->b≠c:=λq n z=>by subst z;rw[hc]at q;cases q;exact n rfl
 have nn:∀{b},H b=none->b≠c:=λq z=>by subst z;rw[hc]at q;cases q
 refine{ {λb ob q n hb hx=>?_,λb ob q n hb hx=>?_,λb ob q n hx=>?_,λb ob q hx=>u.there b ob q hx,λb xs q=>?_,λb ob v q=>?_,λb ps q=>?_},h1c,e1}
 ·exact u.keep b ob q (by rw[bQ (nn n)];exact n) hb hx
 ·exact u.slot b ob q (by rw[bQ (nn n)];exact n) hb hx
 ·rw[am (nn n)];exact u.free b ob q (by rw[bQ (nn n)];exact n) hx
 ·have nb:=ne q (λz=>by cases z);rw[am nb];exact u.tups b xs (by rw[bQ nb];exact q)
 ·by_cases nb:b=c
  ·subst nb;rw[hc]at q;cases q;exact ae
  rw[am nb];exact u.frzs b ob v (by rw[bQ nb];exact q)
 have nb:=ne q (λz=>by cases z);rw[am nb];exact u.tbls b ps (by rw[bQ nb];exact q)
theorem Un.out (u:Un fs ex (upd H c (cT o)) H1 h h1) (k1:HOk P w H1 h1) (hc:H c=none) (e:h.get? c=-o) (nf:c∉fs):Un fs ex H (ed H1 c) h h1/\HOk P w (ed H1 c) h1/\H1 c=-cT o:=by
 have h1c:=u.frzs c o _ ae;have e1:=(k1 c _ h1c).1;refine{ {λb ob q n hb hx=>?_,λb ob q n hb hx=>?_,λb ob q n hx=>?_,λb ob q hx=>u.there b ob q hx,λb xs q=>?_,λb ob v q=>?_,λb ps q=>?_},k1.drop h1c,h1c}
 ·by_cases nb:b=c
  ·subst nb;rw[e]at q;cases q;exact e1
  exact u.keep b ob q (by rw[am nb];exact n) hb hx
 ·have nb:b≠c:=λz=>by subst z;exact nf hb
  exact u.slot b ob q (by rw[am nb];exact n) hb hx
 ·by_cases nb:b=c
  ·subst nb;exact dP
  rw[bQ nb];exact u.free b ob q (by rw[am nb];exact n) hx
 ·have nb:=aG q hc;rw[bQ nb];exact u.tups b xs (by rw[am nb];exact q)
 ·have nb:=aG q hc;rw[bQ nb];exact u.frzs b ob v (by rw[am nb];exact q)
 have nb:=aG q hc;rw[bQ nb];exact u.tbls b ps (by rw[am nb];exact q)
end
structure Lm where
 qual:Str
 params:Arguments
 body:Expr
 scope:Scope
 pos:Pos
def jm (c:Addr) (qual:Str):HO:=.ext λh=>h.CodeRec (.ref c) qual
def i5 (f:Addr) (l:Lm) (cl:List (Str × Addr)) (c:Addr):HO:=.ext λh=>∃pm ctv,h.get? f=-PySem.W.kla_obj "<lambda>" l.qual l.params l.body l.scope cl pm c ctv
variable {qual y z x n:Str} {h h1 base:Heap} {w:World} {P p q:Program}
theorem xA (r:h.CodeRec (.ref c) qual):bG P w H h c (jm c qual):=by
 obtain⟨d,oc,vs,t,e1,e2,r2⟩:=id r;cases e1;refine{r,⟨oc,e2⟩,λh1 h2 p k=>?_};obtain⟨d,oc,vs,t,e1,e2,r2⟩:=p;cases e1;exact{_,oc,vs,t,rfl,k _ e2,r2}
variable {pm ctv u uy:Value} {cl:List (Str × Addr)}
theorem tJ {l:Lm} (e:h.get? f=-PySem.W.kla_obj "<lambda>" l.qual l.params l.body l.scope cl pm c ctv):bG P w H h f (i5 f l cl c) :=
 {⟨pm,ctv,e⟩,⟨_,e⟩,λ_ _ ⟨pm,ctv,q⟩ k=>{pm,ctv,k _ q} }
def fA (l:Lm) (c:Addr):Array Value:=#[rawInt l.pos.line,rawInt l.pos.col,.ref c]
def gC (T:Addr) (l:Lm) (H:Hp):Prop:=H T=-(.tbl #[])\/∃c,H T=-.tbl (fA l c)/\H c=-jm c l.qual
structure Made (T:Addr) (l:Lm) (cl:List (Str × Addr)) (H:Hp) (f c:Addr) (H':Hp):Prop where
 new:H f=none
 fn:H' f=-i5 f l cl c
 code:H' c=-jm c l.qual
 tab:H' T=-.tbl (fA l c)
 old:∀b o,H b=-o->b≠T->H' b=-o
def gO (base:Heap) (mg:J6):Prop:=∃bm ob,mg "__builtins__" = -.ref bm/\bm≠builtinsNs/\bm≠mainGlobals/\base.get? bm=-ob/\ob.cls=.type "module" /\ ob.dict=-builtinsNs/\ob.data=.plain
def BO (T:Addr) (l:Lm) (cl:List (Str × Addr)):TE:=λ_ H Q=>gC T l H/\∀f c H',Made T l cl H f c H'->Q (.ref f) H'
section
variable {X:Cx}
theorem AU {params:Arguments} {body:Expr} {scope:Scope} {pos:Pos} {cc T:Addr} {cl:List (Str × Addr)} (hcode:X.env.code=.ref cc) (C:PySem.W.CodeHd X.base cc T) (B:gO X.base X.mg) (hcl:closureFor scope X.env=pure cl) (hdef:defaultsOf params X.env=([],[]):=by rfl) :
  PE X (.Lambda params body scope pos) (BO T {X.env.qual ++ "<lambda>", params,body,scope,pos} cl):=by
 intro pins s U H Q I h;obtain⟨tb,q⟩:=h;refine PySem.W.kla_eval hdef ?_;have hg:s.heap.Ns mainGlobals X.mg:=I.mod.glob.keeps I.bk;have hT:∃ps,H T=-.tbl ps:=by rcases tb with e|⟨c,e,_⟩ <;> exact⟨_,e⟩
 obtain⟨ps0,hps0⟩:=hT
 have bne:∀{b ob},X.base.get? b=-ob->b≠T:=λe z=>by
  subst z;rw[(I.bs _ _ e).2]at hps0;cases hps0
 have hgP:mainGlobals≠T:=by
  obtain⟨o,es,ep,e,_⟩:=I.mod.glob;exact bne e
 obtain⟨bm,ob,b1,b2,b3,b4,b5,b6,b7⟩:=B;have hB:s.heap.BuiltinsAt X.mg T:={bm,ob,b1,b2,b3,bne b4,I.bk _ _ b4,b5,b6,b7};have CH:=C.keeps I.bk;rcases tb with e|⟨c,e,hc⟩
 ·have hP:s.heap.get? T=-(PySem.W.tabObj #[]):=I.hok T _ e;refine PySem.W.kla_makeFunction (mg:=X.mg) hcl I.ok.glob hg hcode CH hP trivial rfl hgP hB λc' ctv h' tk hx hge hlt hrec htb=>?_;have hsz:s.heap.objs.size<=h'.objs.size:=Xx (Xy hge hlt);have nT:T<s.heap.objs.size:=Qm hP;let f:Addr:=h'.objs.size;have Hf:H f=none:=I.hok.fresh hsz;have Hc:H c'=none:=I.hok.fresh hge;have nfc:c'≠f:=Qz hlt;have nTf:T≠f:=Qz (QG nT hsz);have nTc:T≠c':=Qz (QG nT hge);let H':Hp:=upd (upd (upd H T (.tbl (fA {X.env.qual ++ "<lambda>", params,body,scope,pos} c'))) c' (jm c' (X.env.qual ++ "<lambda>"))) f (i5 f {X.env.qual ++ "<lambda>", params,body,scope,pos} cl c')
  have hH:∀b o,H b=-o->b≠T->H' b=-o:=λb o e n=>by
   show upd (upd (upd H T _) c' _) f _ b=_;rw[am (aG e Hf),am (aG e Hc),am n];exact e
  have hHT:H' T=-.tbl (fA {X.env.qual ++ "<lambda>", params,body,scope,pos} c'):=by
   show upd (upd (upd H T _) c' _) f _ T=_;rw[am nTf,am nTc,ae]
  have hHc:H' c'=-jm c' (X.env.qual ++ "<lambda>"):=by
   show upd (upd (upd H T _) c' _) f _ c'=_;rw[am nfc,ae]
  have kx:∀b o,b≠T->s.heap.get? b=-o->(h'.push (PySem.W.kla_obj "<lambda>" (X.env.qual ++ "<lambda>") params body scope cl ((X.mg "__name__").getD .none) c' ctv)).get? b=-o:=λb o n e=>Qd _ (hx b o n e);have htb':h'.get? T=-PySem.W.tabObj (fA {X.env.qual ++ "<lambda>", params,body,scope,pos} c'):=by simpa[fA] using htb
  have ntb:∀{b u},H b=-u->(∀ps,u≠.tbl ps)->b≠T:=λr n z=>by
   subst z;rw[e]at r;cases r;exact n _ rfl
  have un:Un X.fs [] H H' s.heap (h'.push (PySem.W.kla_obj "<lambda>" (X.env.qual ++ "<lambda>") params body scope cl ((X.mg "__name__").getD .none) c' ctv)):=by
   have nn:∀{b},H b=none->b≠T:=λn z=>by subst z;rw[e]at n;cases n
   refine{λb o r n _ _=>kx b o (nn n) r,λb o r n _ _=>{o.slots,kx b o (nn n) r},λb o r n _=>?_,λb o r _=>?_,λb xs r=>hH b _ r (ntb r λ_ z=>nomatch z),λb o v r=>hH b _ r (ntb r λ_ z=>nomatch z),λb ps r=>?_}
   ·have lb:b<s.heap.objs.size:=Qm r;show upd (upd (upd H T _) c' _) f _ b=none;rw[am (Qz (QG lb hsz)),am (Qz (QG lb hge)),am (nn n)];exact n
   ·by_cases z:b=T
    ·subst z;exact{_,Qd _ htb'}
    exact{o,kx b o z r}
   by_cases z:b=T
   ·subst z;rw[e]at r;cases r;exact{fA {X.env.qual ++ "<lambda>", params,body,scope,pos} c',by rw[hHT,Array.empty_append]}
   exact{#[],by rw[hH b _ r z];simp}
  have hok:HOk X.prog X.w H' (h'.push (PySem.W.kla_obj "<lambda>" (X.env.qual ++ "<lambda>") params body scope cl ((X.mg "__name__").getD .none) c' ctv)):=λb u qb=>by
   have qb:upd (upd (upd H T (.tbl (fA {X.env.qual ++ "<lambda>", params,body,scope,pos} c'))) c' (jm c' (X.env.qual ++ "<lambda>"))) f (i5 f {X.env.qual ++ "<lambda>", params,body,scope,pos} cl c') b=-u:=qb;by_cases z1:b=f
   ·subst z1;rw[ae]at qb;cases qb;exact tJ (Qr _ rfl)
   rw[am z1]at qb;by_cases z2:b=c'
   ·subst z2;rw[ae]at qb;cases qb;obtain⟨d,oc,vs,t,e1,e2,r2⟩:=hrec;exact xA {d,oc,vs,t,e1,Qd _ e2,r2}
   rw[am z2]at qb;by_cases z3:b=T
   ·subst z3;rw[ae]at qb;cases qb;exact Qd _ htb'
   rw[am z3]at qb;refine(I.hok b u qb).stay (λd v hd r=>kx d v ?_ r) (λd r=>hH d _ r (ntb r λ_ z=>nomatch z)) λd xs r=>hH d _ r (ntb r λ_ z=>nomatch z);rcases hd with z|z
   ·rw[z];exact z3
   intro y;subst y;rw[e]at z;cases z
  refine{.ref f,H',I.un (t':=tk) un hok,rfl,q f c' H' ⟨Hf,ae,hHc,hHT,hH⟩}
 have hP:s.heap.get? T=-PySem.W.tabObj (fA {X.env.qual ++ "<lambda>", params,body,scope,pos} c):=I.hok T _ e;refine PySem.W.kla_makeFunctionHit (mg:=X.mg) (cv:=.ref c) hcl I.ok.glob hg hcode CH hP trivial (by simp[fA,codeAmong,rawInt]) hB λctv h' tk hk hsz=>?_;let f:Addr:=h'.objs.size;have Hf:H f=none:=I.hok.fresh hsz;refine{.ref f,_,I.laid (t':=tk) (a:=f) (o:=i5 f {X.env.qual ++ "<lambda>", params,body,scope,pos} cl c) (λb o e=>Qd _ (hk b o e)) hsz (tJ (Qr _ rfl)),rfl,q f c _ {Hf,ae,?_,?_,λb o e _=>?_} }
 ·rw[am (aG hc Hf)];exact hc
 ·rw[am (aG e Hf)];exact e
 rw[am (aG e Hf)];exact e
end
structure LmScope (x y:Str) (sc:Scope):Prop where
 kind:sc.kind=.function
 co:sc.isCoroutine=false
 gen:sc.isGenerator=false
 par:sc.names.lookup x=-.local
 fre:sc.names.lookup y=-.free
 ne:x≠y
 nocell:∀z∈sc.names,z.2≠.cell
 only:∀z,sc.names.lookup z=-.free->z=y
noncomputable def tV (P:Program) (w:World) (K:PySem.W.Frag) (mg:J6) (base:Heap) (x y:Str) (l:Lm) (f c cell:Addr) (A:Around) (outer:List Env) (s:Shared) (H:Hp) (E:XK):Cx where
 prog:=P
 w:=w
 K:=K
 mg:=mg
 base:=base
 A:=A.deeper (PySem.W.envX l.qual l.scope s.heap.objs.size f (.ref c) [(y,cell)])
 N:=[x,y]
 s₀:=s
 H₀:=H
 env:=PySem.W.envX l.qual l.scope s.heap.objs.size f (.ref c) [(y,cell)]
 outer:=outer
 stack:=PySem.W.envX l.qual l.scope s.heap.objs.size f (.ref c) [(y,cell)]::outer
 ex:=[]
 calm:=true
 fn:=λ_=>false
 pn:=[]
 xe:=λe s'=>wpAny (model P w) (A.deeper (PySem.W.envX l.qual l.scope s.heap.objs.size f (.ref c) [(y,cell)])) (leaving (PySem.W.envX l.qual l.scope s.heap.objs.size f (.ref c) [(y,cell)]) e) (λ_ s''=>CX0 outer H s E e s'') (λe' s''=>CX0 outer H s E e' s'') s'
theorem lk1 (h:[(y,cell)].lookup z=-c):z=y/\c=cell:=by
 rw[Q8]at h;by_cases e:(z==y)=true
 ·rw[e]at h;cases h;exact{eq_of_beq e,rfl}
 have e:(z==y)=false:=by simpa using e
 rw[e]at h;cases h
theorem qy:[(y,cell)].lookup y=-cell:=by
 rw[Q8,beq_self_eq_true]
variable {s s₁:Shared} {mg mb:J6} {K:PySem.W.Frag}
theorem yI {l:Lm} {f c:Addr} {A:Around} {outer:List Env} {E:XK} {vx vy:V} {tk:Nat}
  (S:LmScope x y l.scope) (hd:A.handled=none) (e0:Env0 P w K mg base A outer s H) (rx:aY vx u) (ry:aY vy uy) (hc:s.heap.IsCell cell (-uy)) (hH:H cell=none)
  (hns:h1.Ns s.heap.objs.size (λz=>[(x,u)].reverse.lookup z)) (hk:∀b o,s.heap.get? b=-o->h1.get? b=-o) :
  Inv (tV P w K mg base x y l f c cell A outer s H E) [] [-vx,-vy] H { s with heap:=h1,toks:=tk }:=by
 have noA:∀b:Addr,b∉(tV P w K mg base x y l f c cell A outer s H E).ex:=λb z=>absurd (show b∈([]:J7) from z) (by simp);have hc1:h1.IsCell cell (-uy):=by obtain⟨o,e1,e2⟩:=hc;exact{o,hk _ _ e1,e2}
 refine{ {e0.mod,S.kind,rfl,rfl,Qh _,λy' z c h1 h2=>(lk1 h1).1.trans (lk1 h2).1.symm,λz hz=>?_,(λy c h _=>nomatch h),λ_=>hd,Around.frames_deeper e0.frames,.inr ⟨rfl,rfl⟩,λb z=>absurd z (noA b),e0.bs,e0.bsz,λb _ _=>noA b,λb z=>absurd z (noA b),e0.funs,e0.frf},
  rfl,e0.bare,Un.kept hk,{_,hns,λi z v h1 h2 h3=>?_},λz c h=>?_,e0.hok.fresh (Qh _),λz c h=>?_,λp hp=>absurd (show p∈([]:J5) from hp) (by simp),e0.hok.kept hk,rfl}
 ·have hz:l.scope.names.lookup z=-.cell\/l.scope.names.lookup z=-.free:=hz;rcases hz with hz|hz
  ·exact absurd rfl (S.nocell _ (PySem.mem_of_lookup hz))
  rw[S.only z hz];exact⟨cell,qy⟩
 ·match i with
  | 0 =>
   cases h1;cases h2;refine{u,rx,.inl {S.par,?_} };show [(x,u)].reverse.lookup x=-u;simp[List.lookup]
  | 1 =>
   cases h1;cases h2;exact{uy,ry,.inr {.inr S.fre,cell,qy,hc1} }
  | i+2 =>
   exact absurd h1 (by show ([x,y]:List Str)[i+2]?≠-z;simp)
 ·rw[(lk1 h).2];exact⟨_,hc1⟩
 rw[(lk1 h).2];exact hH
theorem yF {l:Lm} {A:Around} {outer:List Env} {Q:VK} {E:XK} {vx vy:V} {k:Nat} {t:TE} {args:Args}
  (S:LmScope x y l.scope) (hr:Room (k+1) A) (e0:Env0 P w K mg base A outer s H) (rx:aY vx u) (ry:aY vy uy) (hc:s.heap.IsCell cell (-uy)) (hH:H cell=none)
  (hf:s.heap.get? f=-PySem.W.kla_obj "<lambda>" l.qual l.params l.body l.scope [(y,cell)] pm c ctv) (hcd:s.heap.CodeRec (.ref c) l.qual) (hb:bindArgs (PySem.W.kla_fn "<lambda>" l.qual l.params l.body l.scope [(y,cell)] pm (.ref c) ctv) args=pure [(x,u)])
  (body:Room k (A.deeper (PySem.W.envX l.qual l.scope s.heap.objs.size f (.ref c) [(y,cell)]))->PE (tV P w K mg base x y l f c cell A outer s H E) l.body t) (q:t [-vx,-vy] H Q):codeAny (model P w) A (.call (.ref f) args) (CR CX0 outer P w H s Q E) s:=by
 have lim:s.heap.NoLimit:=e0.mod.nolimit.keeps λb o e=>(e0.bs b o e).1;refine PySem.W.kla_callFunE hr.depth hf rfl S.co S.gen rfl hcd ?_;rw[hb];refine Qf (wpAny_newFunctionEnv S.nocell (λz hz=>by rw[Qu.mp hz];exact S.par) (λh1 hns hsb=>?_) S.kind);have hk1:∀b o,s.heap.get? b=-o->h1.get? b=-o:=λb o e=>hsb.extBut b o (Qz (Qm e)) (Qd _ e);refine{lim.keeps hk1,?_};show codeAny _ _ (.expr l.body (PySem.W.envX l.qual l.scope s.heap.objs.size f (.ref c) [(y,cell)])) _ _;have I:=yI (f:=f) (c:=c) (E:=E) (tk:=s.toks+[(x,u)].length) S hr.hd e0 rx ry hc hH hns hk1;refine PySem.W.kla_codeExpr (Xr (body (hr.deeper _) [] _ _ H Q I q) (λv s' hs=>?_) λe s' hs=>hs);obtain⟨v',H',J,rv,qv⟩:=hs;exact⟨v',H',J.os,J.bare,J.base,J.hok,rv,qv⟩
def Calls (P:Program) (w:World) (K:PySem.W.Frag) (mg:J6) (base:Heap) (k:Nat) (f:Addr) (r:V->Hp->VK->Prop):Prop :=
 ∀(X:Cx),X.prog=P->X.w=w->X.K=K->X.mg=mg->X.base=base->lK CX0 X E0->Room k X.A->∀pins s U H vx u (Q:VK),Inv X pins U H s->aY vx u->r vx H Q->wpAny (model X.prog X.w) X.A (call (.ref f) [u]) (EP X pins U Q) X.xe s
def vC (P:Program) (w:World) (K:PySem.W.Frag) (mg:J6) (base:Heap) (k i:Nat) (te:TE):TE:=λU H Q=>∃f l cl c r,U[i]?=- -.ref f/\Calls P w K mg base k f r/\H f=-i5 f l cl c/\te U H λv H1=>H1 f=-i5 f l cl c/\r v H1 Q
variable {pins:J5} {X:Cx}
theorem qG {U:St} {l:Lm} (I:Inv X pins U H s) (h:H f=-i5 f l cl c):PySem.W.FnAt f s.heap:=by
 obtain⟨pm,ctv,e⟩:=(I.hok f _ h).1;exact⟨_,_,_,_,e⟩
theorem v8 {k i:Nat} {e:Expr} {te:TE} {p pos:Pos} (hr:Room k X.A) (hx:lK CX0 X E0) (hn:PE X (.Name n p) (bY i)) (he:PE X e te) (hs:starEach [e] X.env=[(false,eval e X.env)]:=by rfl) (hs0:starEach ([]:List Expr) X.env=[]:=by rfl) (hpl:(backTo pos (starEach [] X.env)).any (·.1)=false:=by rfl) :
  PE X (.Call (.Name n p) [e] [] pos) (vC X.prog X.w X.K X.mg X.base k i te):=by
 intro pins s U H Q I h;obtain⟨f,l,cl,c,r,hi,C,hf,h⟩:=h;refine wpAny_Call_Name_kw (thn (hn pins s U H (λv H1=>v=.ref f/\H1=H) I ⟨_,hi,rfl,rfl⟩) λu s1 ⟨v,H1,I1,ru,ev,eh⟩=>?_);subst ev eh;obtain rfl:u=Value.ref f:=ru;refine PySem.W.callWith_F (qG I1 hf) ?_ (by rw[hs,hs0]) hpl;rw[hs];refine Calls.spliced_cons (thn (he pins s1 U H1 _ I1 h) λiv s2 ⟨v,H2,I2,rv,hf2,q⟩=>?_);refine Calls.spliced_nil {qG I2 hf2,?_};exact C X rfl rfl rfl rfl rfl hx hr pins s2 U H2 v iv Q I2 rv q
theorem Inv.cellAt {U:St} {i:Nat} {vy:V} (I:Inv X pins U H s) (hN:X.N[i]?=-y) (hi:U[i]?=- -vy) (hk:X.env.kindOf y=-.cell) (hv:Vis X.env.scope y) (hl:X.env.cells.lookup y=-cell) :
  ∃o uy,s.heap.get? cell=-o/\o.data=.cell (-uy)/\aY vy uy/\H cell=none:=by
 obtain⟨m,_,loc⟩:=I.loc;obtain⟨u,ru,lk⟩:=loc i y vy hN hi hv;rcases lk with⟨k,_⟩|⟨_,c,e,o,e1,e2⟩
 ·rw[hk]at k;cases k
 rw[hl]at e;cases e;exact{o,u,e1,e2,ru,I.freeC y cell hl}
theorem Inv.cellOut {U:St} (I:Inv X pins U H s) (hf:X.fn y=true) (hl:X.env.cells.lookup y=-cell):cell∉frs X.stack:=λz=>by
 have ab:=I.ok.cab y cell hf hl
 have no:cell∉frs X.outer:=λz=>by
  obtain⟨_,o,ho,_⟩:=I.ok.funs.mem z;exact absurd (Qm ho) (Nat.not_lt.mpr ab)
 rcases I.ok.stk with e|⟨e,fr⟩
 ·rw[e]at z;exact no z
 rw[e]at z;unfold frs at z;rw[List.filterMap_cons,fr]at z;rcases QP.mp z with z|z
 ·exact I.cne y cell hl z
 exact no z
def AC (sp:Sp) (i:Nat) (cell:Addr) (t:TA):TE:=λU H Q=>t U H λvs H1=>∃vy,U[i]?=- -vy/\∀o uy,o.data=.cell (-uy)->aY vy uy->H1 cell=none->sp vs (upd H1 cell (cT o)) (λv H2=>Q v (ed H2 cell)) E0
variable {ps loose:List Str}
theorem AV {k i:Nat} {sp:Sp} {e:Expr} {es:List Expr} {t:TA} {p pos:Pos} (F:Fn X.prog X.w X.K X.mg X.base x ps k sp) (hr:Room k X.A) (hg:Gl X x) (ha:PA X (e::es) t)
  (hN:X.N[i]?=-y) (hky:X.env.kindOf y=-.cell) (hv:Vis X.env.scope y) (hl:X.env.cells.lookup y=-cell) (hfn:X.fn y=true)
  (hdb:(x==("__debug__" : Str))=false:=by decide) (he:starEach (e::es) X.env=(false,eval e X.env)::starEach es X.env:=by rfl) (hpl:(backTo pos (starEach es X.env)).any (·.1)=false:=by rfl) :
  PE X (.Call (.Name x p) (e::es) [] pos) (AC sp i cell t):=by
 obtain⟨f,fd,G,hm,hk,hb⟩:=F.ex;intro pins s U H Q I h;refine wpAny_Call_Name_kw (ou I hg hm ?_ hdb);refine PySem.W.callWith_K (h₀:=X.base) I.ok.mod.kin hk (thn (ha pos pins s U H _ I h) λus s1 ⟨vs,H1,I1,r,q⟩=>{I1.kIn,?_}) he hpl;obtain⟨vy,hi,q⟩:=q;obtain⟨o,uy,e1,e2,ry,hn⟩:=I1.cellAt hN hi hky hv hl;have nf:=I1.cellOut hfn hl;have ab:=I1.ok.cab y cell hfn hl;have e0:=I1.env0
 have e0':Env0 X.prog X.w X.K X.mg X.base X.A X.stack s1 (upd H1 cell (cT o)):={e0.frames,e0.mod,λb ob e=>{(e0.bs b ob e).1,by
  rw[am]
  ·exact(e0.bs b ob e).2
  ·intro z;have:=Qm (I1.ok.bs b ob e).1;rw[z]at this
   exact absurd this (Nat.not_lt.mpr ab)},e0.bsz,e0.funs,λb hb=>by
  rw[am]
  ·exact e0.frf b hb
  intro z;rw[z]at hb;exact nf hb,e0.hok.take hn e1,e0.bare}
 have hl2:us.length=ps.length:=by rw[<-r.length];exact G.len _ _ _ _ (q o uy e2 ry hn)
 refine wpAny_call (codeAny_mono (G.run X.A X.stack s1 _ {us,[]} us vs _ E0 hr e0' (by have:=hb s1 us I1.kIn (by rw[List.append_nil];exact hl2);rwa [List.append_nil]at this) r (q o uy e2 ry hn)) λrr s' hq=>?_)
 cases rr with
 | error e=>exact False.elim hq
 | ok fl =>
 cases fl with
 | ret u =>
  obtain⟨v,H',os,bare,un,hok,rv,qv⟩:=hq;obtain⟨un',hok',_⟩:=un.out hok hn e1 nf;exact I1.after ⟨v,_,os,bare,un',hok',rv,qv⟩
 | next=>exact False.elim hq
 | brk=>exact False.elim hq
 | cont=>exact False.elim hq
structure FunC (K:PySem.W.Frag) (x qual:Str) (st:Stmt) (f:Addr) (fd:FuncData) (c:Addr):Prop where
 ex:∃oc od kV doc pm an ct osl,fd=PySem.W.fnOf x qual (dW st) (cL st) (aC st) .none kV doc pm an (.ref c) ct/\K.lookup f=some {oc,od,.func (PySem.W.fnOf x qual (dW st) (cL st) (aC st) .none kV doc pm an (.ref c) ct),osl}/\PySem.W.codeIn K (.ref c) qual=true
section
variable {P:Program} {w:World} {K:PySem.W.Frag} {mg:J6} {base:Heap}
theorem FunC.ok {x qual:Str} {st:Stmt} {f c:Addr} {fd:FuncData} {N ps:List Str} {k:Nat} {sp:Sp} (F:FunC K x qual st f fd c) (S:FnScope N ps (aC st)) (len:∀vs H Q E,sp vs H Q E->vs.length=ps.length)
  (hbody:∀(A:Around) (outer:List Env) (s:Shared) (H:Hp) (vs:List V) (Q:VK) (E:XK),Room k (A.deeper (envOfC qual (aC st) s.heap.objs.size f (.ref c)))->sp vs H Q E ->
   ∃t,PSs (cxOf CX0 P w K mg base N qual (aC st) f (.ref c) A outer s H E).nox (cL st) t/\t { nx:=λ_ H'=>Q .non H',rt:=Q } (start N vs) H):FnOk P w K mg base CX0 (k+1) f fd ps sp:=by
 obtain⟨oc,od,kV,doc,pm,an,ct,osl,rfl,lk,hcd⟩:=F.ex;refine Au lk hcd S len λA outer s H vs Q E hr hsp=>?_;obtain⟨t,h,q⟩:=hbody A outer s H vs Q E hr hsp;exact⟨t,h.nox,q⟩
end
structure OnlyT (tabs:List (Addr × Addr)) (H:Hp):Prop where
 tab:∀q∈tabs,H q.2=-(.tbl #[])
 other:∀b,b∉tabs.map (·.2)->H b=none\/∃o xs,H b=-.frz o (.lst xs)
theorem uS {CX:CXT} {k:Nat} {fd:FuncData} {sp:Sp} {vs:List Value} {ns:List Int} {tabs:List (Addr × Addr)}
  (KX:K.In s₁.heap) (hns:s₁.heap.Ns mainGlobals mg) (hb:s₁.heap.Ns builtinsNs mb) (hbb:∀x:Str,x ≠ "__name__" -> mb x=bootBuiltins x) (hlim:s₁.heap.NoLimit) (hg:s₁.gens=#[])
  (hbm:gO s₁.heap mg) (hT:PySem.W.TabsAt tabs s₁.heap) (hTK:∀q∈tabs,K.lookup q.2=none)
  (ha:s₁.heap.get? a=some { cls:=.type "list", data:=.seq vs.toArray }) (hi:IntsAre vs ns) (hl:ns.length<=sizeLine) (hr:Room k callerA)
  (F:∀base:Heap,K.In base->base.Ns mainGlobals mg->gO base mg->FnOk P w K mg base CX k fa fd [x] sp) (hbind:∀(s:Shared) (u:Value),BindsTo s fd {[u],[]} [(x,u)])
  (hsp:∀H:Hp,OnlyT tabs H->SqL K H a (ns.map V.int)->sp [.ref a] H (λv _=>v=.bl true) λ_ _ _=>False)
  (hCX:∀H e s',CX [] H s₁ (λ_ _ _=>False) e s'->False) :
  codeAny (model P w) callerA (.call (.ref fa) {[.ref a],[]}) (λr s'=>r=.ok (.ret (.bool true))/\OldK s₁.heap s'.heap/\s'.os=s₁.os/\AllBare s'.gens) s₁:=by
 have rv:=mt hi;have lenV:=hi.length
 have naT:a∉tabs.map (·.2):=λq=>by
  obtain⟨r,hr,e⟩:=Qj.mp q;have e2:=(hT r hr).2;rw[e,ha]at e2;cases e2
 have core:∀H:Hp,OnlyT tabs H->SqL K H a (ns.map V.int)->HOk P w H s₁.heap->(∀b,H b≠none->b=a\/b∈tabs.map (·.2))->(H a≠none->K.lookup a=none) ->
   codeAny (model P w) callerA (.call (.ref fa) {[.ref a],[]}) (λr s'=>r=.ok (.ret (.bool true))/\OldK s₁.heap s'.heap/\s'.os=s₁.os/\AllBare s'.gens) s₁:=by
  intro H hO hS hok hA hK;have base_of:∀{b:Addr} {o:Obj},s₁.heap.get? b=-o->H b=none->(l_ s₁.heap H).get? b=-o:=λe n=>w_ e n
  have noA:∀{b:Addr} {o:Obj},s₁.heap.get? b=-o->(∀ps n,o.data≠.seq ps n)->(∀ps,o.data≠.fields ps)->H b=none:=λ{b o} e d1 d2=>by
   cases q:H b with
   | none=>rfl
   | some u =>
   rcases hA b (by rw[q];simp) with e'|e'
   ·subst e';rw[ha]at e;cases e;exact absurd rfl (d1 _ _)
   obtain⟨r,hr,er⟩:=Qj.mp e';have e2:=(hT r hr).2;rw[er,e]at e2;cases e2;exact absurd rfl (d2 _)
  have nsK:∀{b:Addr} {m:J6},s₁.heap.Ns b m->(l_ s₁.heap H).Ns b m:=λ{b m} ⟨o,es,ep,e,d,r⟩=>{o,es,ep,base_of e (noA e (λ_ _ z=>by rw[d]at z;cases z) (λ_ z=>by rw[d]at z;cases z)),d,r}
  have hKb:K.In (l_ s₁.heap H):=λb o e=>base_of (KX b o e) (by
   cases q:H b with
   | none=>rfl
   | some u =>
   rcases hA b (by rw[q];simp) with e'|e'
   ·subst e';rw[hK (by rw[q];simp)]at e;cases e
   obtain⟨r,hr,er⟩:=Qj.mp e';have e2:=hTK r hr;rw[er,e]at e2
   cases e2)
  have hM:Mod K mg (l_ s₁.heap H):={hKb,nsK hns,{mb,nsK hb,hbb},let ⟨mc,h1,h2⟩:=hlim;{mc,nsK h1,h2} }
  have hB:gO (l_ s₁.heap H) mg:=by
   obtain⟨bm,ob,b1,b2,b3,b4,b5,b6,b7⟩:=hbm;exact{bm,ob,b1,b2,b3,base_of b4 (noA b4 (λ_ _ z=>by rw[b7]at z;cases z) (λ_ z=>by rw[b7]at z;cases z)),b5,b6,b7}
  have e0:Env0 P w K mg (l_ s₁.heap H) callerA [] s₁ H:={rfl,hM,λb o e=>yA e,Nat.le_of_eq (u6 _ _),trivial,λb hb=>absurd (show b∈([]:J7) from hb) (by simp),hok,.of_eq hg};refine codeAny_mono ((F _ hKb (nsK hns) hB).run callerA [] s₁ H {[.ref a],[]} [.ref a] [.ref a] _ _ hr e0 (hbind s₁ (.ref a)) (.cons rfl .nil) (hsp H hO hS)) λr s' h=>?_
  cases r with
  | error e=>exact(hCX H e s' h).elim
  | ok fl =>
  cases fl with
  | next=>exact False.elim h
  | brk=>exact False.elim h
  | cont=>exact False.elim h
  | ret u =>
  obtain⟨v,H',os,bare,un,hok',r',q⟩:=h;have q':v=.bl true:=q;subst q';obtain rfl:u=Value.bool true:=r';refine{rfl,{λb o e=>?_,λb o e=>un.there b o e (by simp)},os,bare}
  cases q:H b with
  | none=>exact .inl (un.keep b o e q (by intro z;exact absurd (show b∈([]:J7) from z) (by simp)) (by simp))
  | some u =>
  by_cases hb:b∈tabs.map (·.2)
  ·obtain⟨r,hr,er⟩:=Qj.mp hb;have t1:=hO.tab r hr;have e2:=(hT r hr).2;have ict:=((hT r hr).1.tab (hT r hr).2).isCodeTable;rw[er]at t1 e2 ict;rw[e]at e2;cases e2;obtain⟨more,t2⟩:=un.tbls b _ t1;have t3:s'.heap.get? b=some { cls:=.none,data:=.fields (#[]++more) }:=hok' b _ t2;exact .inr (.inl {ict,rfl,#[],more,rfl,t3})
  rcases hO.other b hb with z|⟨ob,xs,z⟩
  ·rw[q]at z;cases z
  have z2:=un.frzs b ob _ z;obtain⟨e1,_⟩:=hok b _ z;obtain⟨e2,_⟩:=hok' b _ z2;rw[e]at e1;cases e1;exact .inl e2
 let HT:Hp:=λb=>if b∈tabs.map (·.2) then -(.tbl #[]) else none
 have htab:∀b,b∈tabs.map (·.2)->s₁.heap.get? b=-(PySem.W.tabObj #[]):=λb hb=>by
  obtain⟨r,hr,er⟩:=Qj.mp hb;rw[<-er];exact(hT r hr).2
 cases hk:K.lookup a with
 | some o =>
  have e:=KX a o hk;rw[ha]at e;cases e;refine core HT {λq hq=>QF (Qj.mpr ⟨q,hq,rfl⟩),λb hb=>.inl (QE hb)} (.inr {_,vs.toArray,_,hk,rfl,rfl,rfl,by rw[Ql,lenV];exact hl,~~~rv}) (λb u z=>?_) (λb z=>?_) λz=>absurd (QE naT) z
  ·by_cases hb:b∈tabs.map (·.2)
   ·have z':=(QF hb).symm.trans z;cases z';exact htab b hb
   have z':=(QE hb).symm.trans z;cases z'
  by_cases hb:b∈tabs.map (·.2)
  ·exact .inr hb
  exact absurd (QE hb) z
 | none =>
 let HA:Hp:=λb=>if b=a then -(.frz { cls:=.type "list", data:=.seq vs.toArray } (.lst (ns.map V.int))) else HT b;have hA1:HA a=-(.frz { cls:=.type "list", data:=.seq vs.toArray } (.lst (ns.map V.int))):=QF rfl;have hA2:∀b,b≠a->HA b=HT b:=λb h=>QE h;refine core HA {λq hq=>?_,λb hb=>?_} (.inl (.inr { { cls:=.type "list", data:=.seq vs.toArray },hA1})) (λb u z=>?_) (λb z=>?_) λ_=>hk
 ·rw[hA2 _ λz=>naT (Qj.mpr ⟨q,hq,z⟩)];exact QF (Qj.mpr ⟨q,hq,rfl⟩)
 ·by_cases hba:b=a
  ·subst hba;exact .inr ⟨_,_,hA1⟩
  rw[hA2 b hba];exact .inl (QE hb)
 ·by_cases hba:b=a
  ·subst hba;rw[hA1]at z;cases z;exact{ha,by rw[Qa];exact hl,vs,_,rv,ha}
  rw[hA2 b hba]at z;by_cases hb:b∈tabs.map (·.2)
  ·have z':=(QF hb).symm.trans z;cases z';exact htab b hb
  have z':=(QE hb).symm.trans z;cases z'
 by_cases hba:b=a
 ·exact .inl hba
 rw[hA2 b hba]at z;by_cases hb:b∈tabs.map (·.2)
 ·exact .inr hb
 exact absurd (QE hb) z
theorem xF {mean:ExcName->Option Value} (T:Top p loose mean mg mb h):gO h mg:=by
 obtain⟨bm,ob,b1,b2,b3,b4,b5,b6⟩:=T.bmain;refine{bm,ob,b1,b2,λq=>?_,b3,b4,b5,b6};obtain⟨o,es,ep,e,hd,_⟩:=T.g;rw[q,e]at b3;cases b3;rw[hd]at b6;cases b6
variable {XP:J6->Heap->Prop} {l:PySem.W.OpenLaw}
theorem vm {n k:Nat} {YP:World->Heap->Prop} {d:DefRec} {K:Params->PySem.W.Frag} {CX:World->CXT} {sp:World->Sp} (tabs:World->List (Addr × Addr))
  (hn:l.most=-n) (hn2:n<=sizeLine) (hdf:d.params.defaults=[]) (hr:Room k callerA)
  (hY:∀(w:World) (h:Heap),YP w h->(K w.params).In h) (hY2:∀(w:World) (h:Heap),YP w h->PySem.W.TabsAt (tabs w) h) (hTK:∀(w:World),∀q∈tabs w,(K w.params).lookup q.2=none)
  (F:∀(w:World) (mg:J6) (fa:Addr) (h:Heap),(K w.params).In h->h.Ns mainGlobals mg->mg d.name=some (.ref fa) ->
   ∃fd:FuncData,(∀(s:Shared) (u:Value),BindsTo s fd {[u],[]} [(x,u)]) /\
    ∀base:Heap,(K w.params).In base->base.Ns mainGlobals mg->gO base mg->FnOk l.prog w (K w.params) mg base (CX w) k fa fd [x] (sp w))
  (hsp:∀(w:World) (H:Hp) (a:Addr) (ns:List Int),ns.length<=n->OnlyT (tabs w) H->SqL (K w.params) H a (ns.map V.int)->sp w [.ref a] H (λv _=>v=.bl true) λ_ _ _=>False)
  (hCX:∀(w:World) (H:Hp) (s:Shared) (e:Value) (s':Shared),CX w [] H s (λ_ _ _=>False) e s'->False) :
  PySem.W.WalkO q loose XP YP l.row.toRowW d [] (λf vs=>PySem.call f vs):=by
 refine Att.qP hn hdf λw s₀ s₁ mg mb fa o pm cd doc a vs ns G Y ho hd hcd hmg hobj hints hlen hg=>?_;have KX:=hY w _ Y;obtain⟨fd,hb,hF⟩:=F w mg fa _ KX G.T.g hmg;exact uS KX G.T.g G.T.b G.T.builtins G.T.nolimit hg (xF G.T) (hY2 w _ Y) (hTK w) hobj hints (QY hlen hn2) hr hF hb (λH hO hS=>hsp w H a ns hlen hO hS) λH e s'=>hCX w H s₁ e s'
def rS (K:PySem.W.Frag) (ts:J7):List (Addr × Addr):=ts.flatMap λT=>(K.filter λp=>PySem.W.codeHdIn K p.1 T).map λp=>(p.1,T)
def iq (K:PySem.W.Frag) (ts:J7):Bool:=ts.all λT=>(K.any λp=>PySem.W.codeHdIn K p.1 T)&&(K.lookup T).isNone
variable {ts as:J7}
theorem kM {q:Addr × Addr} (h:q∈rS K ts):q.2∈ts/\PySem.W.codeHdIn K q.1 q.2=true:=by
 obtain⟨T,hT,h⟩:=List.mem_flatMap.mp h;obtain⟨p,hp,rfl⟩:=Qj.mp h;exact{hT,(List.mem_filter.mp hp).2}
theorem rR (ok:iq K ts=true) (hT:T∈ts):∃c,(c,T)∈rS K ts:=by
 have h:=QM.mp ok T hT;rw[Xj]at h;obtain⟨p,hp,e⟩:=List.any_eq_true.mp h.1;exact{p.1,List.mem_flatMap.mpr {T,hT,Qj.mpr {p,List.mem_filter.mpr ⟨hp,e⟩,rfl} } }
theorem rQ (ok:iq K ts=true) (hT:T∈ts):K.lookup T=none:=by
 have h:=QM.mp ok T hT;rw[Xj]at h;exact Option.isNone_iff_eq_none.mp h.2
theorem vn {n k:Nat} {d:DefRec} {K:Params->PySem.W.Frag} {e:∀P,as=(K P).map (·.1)} {CX:World->CXT} {sp:World->Sp}
  (hn:l.most=-n) (hn2:n<=sizeLine) (hdf:d.params.defaults=[]) (hr:Room k callerA) (ok:∀w:World,iq (K w.params) ts=true)
  (F:∀(w:World) (mg:J6) (fa:Addr) (h:Heap),(K w.params).In h->h.Ns mainGlobals mg->mg d.name=some (.ref fa) ->
   ∃fd:FuncData,(∀(s:Shared) (u:Value),BindsTo s fd {[u],[]} [(x,u)]) /\
    ∀base:Heap,(K w.params).In base->base.Ns mainGlobals mg->gO base mg->FnOk l.prog w (K w.params) mg base (CX w) k fa fd [x] (sp w))
  (hsp:∀(w:World) (H:Hp) (a:Addr) (ns:List Int),ns.length<=n->(∀T∈ts,H T=-(.tbl #[]))->SqL (K w.params) H a (ns.map V.int)->sp w [.ref a] H (λv _=>v=.bl true) λ_ _ _=>False)
  (hCX:∀(w:World) (H:Hp) (s:Shared) (e:Value) (s':Shared),CX w [] H s (λ_ _ _=>False) e s'->False) :
  PySem.W.WalkO q loose XP (PySem.W.kmHook K as e ts).says l.row.toRowW d [] (λf vs=>PySem.call f vs):=by
 refine vm (λw=>rS (K w.params) ts) hn hn2 hdf hr (λw h Y=>PySem.W.km_in_of Y) (λw h Y q hq=>?_) (λw q hq=>rQ (ok w) (kM hq).1) F (λw H a ns h1 hO hS=>hsp w H a ns h1 (λT hT=>?_) hS) hCX
 ·obtain⟨h1,h2⟩:=kM hq;exact{PySem.W.codeHd_of_K (PySem.W.km_in_of Y) h2,PySem.W.km_tabs_of Y _ h1}
 obtain⟨c,hc⟩:=rR (ok w) hT;exact hO.tab _ hc
end L2
set_option maxHeartbeats 1000000
namespace Tm
open PySem PyProof.Rows
def oC:Bool->Keyed->Array Keyed->Nat->Nat->Nat->StateT SortSt Sem (Option Nat):=sortPriv% PySem.Builtin.gallop
def qu:Array Keyed->Array Keyed->StateT SortSt Sem (Array Keyed):=sortPriv% PySem.Builtin.mergeLo
def qw:Array Keyed->Array Keyed->StateT SortSt Sem (Array Keyed):=sortPriv% PySem.Builtin.mergeHi
def iZ (κ:KeyKind) (kd:SortKind) (prog:Program) (w:World) (A:Around) (s:Shared):Prop :=
 ∀(E:J0) (x y:Value) (a b:κ.α) (Q:Bool->Shared->Prop),κ.keyOf x=-a->κ.keyOf y=-b->Q (κ.blt a b) s->wpAny (model prog w) A (keyLt' kd x y) Q E s
def kv (κ:KeyKind) (p:Keyed):κ.α:=(κ.keyOf p.1).getD κ.dflt
def Hk (κ:KeyKind) (p:Keyed):Prop:=∃a,κ.keyOf p.1=-a
variable {prog:Program} {w:World} {A:Around} {E:J0} {s:Shared} {κ:KeyKind} {kd:SortKind}
section
theorem aW {U α:Type} {M:Model} {Q:α->U->Prop} {st:U} {c:Prop} [Decidable c] {t e:StateT U Sem α} (h:c) (q:wpS M A E s t Q st):wpS M A E s (if c then t else e) Q st:=by rw[QF h];exact q
theorem aV {U α:Type} {M:Model} {Q:α->U->Prop} {st:U} {c:Prop} [Decidable c] {t e:StateT U Sem α} (h:¬c) (q:wpS M A E s e Q st):wpS M A E s (if c then t else e) Q st:=by rw[QE h];exact q
variable {i j base n hint:Nat}
theorem bT (h:i=j):(i==j)=true:=by simp[h]
theorem bF (h:¬i=j):¬(i==j)=true:=by simpa using h
variable {Q:Option Bool->SortSt->Prop} {x y p key:Keyed} {st:SortSt}
theorem jK (hL:iZ κ kd prog w A s) (hk:kindOf st=kd) (hx:Hk κ x) (hy:Hk κ y) (h:Q (-κ.blt (kv κ x) (kv κ y)) st):wpS (model prog w) A E s (lt' x y) Q st:=by
 obtain⟨a,ha⟩:=hx;obtain⟨b,hb⟩:=hy;rw[lt'_eq];refine Qv (wpS_get ?_);rw[hk];refine Qv (wpS_lift (wpAny_attempt (hL _ _ _ _ _ _ ha hb {rfl,?_})));unfold kv at h;rw[ha,hb]at h;exact Qy h
variable {arr:Array Keyed}
theorem bg {Q:Keyed->SortSt->Prop} (h:arr[i]?=-p) (q:Q p st):wpS (model prog w) A E s (elem' arr i) Q st:=by
 rw[elem'_eq,h];exact Qy q
def bey (κ:KeyKind) (left:Bool) (key p:Keyed):Bool:=if left then κ.blt (kv κ p) (kv κ key) else !κ.blt (kv κ key) (kv κ p)
theorem eK (hL:iZ κ kd prog w A s) {left:Bool} {b:Bool} (hk:kindOf st=kd) (hkey:Hk κ key)
  (hP:∃p,arr[j]?=-p/\Hk κ p/\bey κ left key p=b) (h:Q (-b) st) :
  wpS (model prog w) A E s (elem' arr j >>= λx=>if left=true then lt' x key else lt' key x >>= λr=>pure (Option.map (λz=>!z) r)) Q st:=by
 obtain⟨p,hp,hkp,rfl⟩:=hP;refine Qv (bg hp ?_);unfold bey at h
 cases left with
 | true=>exact jK hL hk hkp hkey h
 | false=>exact Qv (jK hL hk hkey hkp (Qy h))
theorem qS (hL:iZ κ kd prog w A s) {left:Bool} {Q:Option Nat->SortSt->Prop} (P:Nat->Bool) (hk:kindOf st=kd) (hkey:Hk κ key)
  (hP:∀i,i<n->∃p,arr[base+i]?=-p/\Hk κ p/\bey κ left key p=P i) (mono:∀i j,i<=j->j<n->P j=true->P i=true) (hh:hint<n)
  (h:∀k,k<=n->(∀i,i<k->P i=true)->(∀i,k<=i->i<n->P i=false)->Q (-k) st):wpS (model prog w) A E s (oC left key arr base n hint) Q st:=by
 have monoF:∀i j,i<=j->j<n->P i=false->P j=false:=λi j h1 h2 h3=>by
  cases e:P j with
  | false=>rfl
  | true=>rw[mono i j h1 h2 e]at h3;cases h3
 unfold oC;refine Qv (eK hL hk hkey (hP hint hh) ?_)
 have fin:∀(lo hi:Nat) (F:(Option (Option Nat) × Nat × Nat)->StateT SortSt Sem (Option Nat)) (body:Nat->(Option (Option Nat) × Nat × Nat)->StateT SortSt Sem (ForInStep (Option (Option Nat) × Nat × Nat))),lo<=hi->hi<=n->(∀i,i<lo->P i=true)->(∀i,hi<=i->i<n->P i=false) ->
   (∀l k,F (none,l,k)=pure (-k))->(∀x l k (R:ForInStep (Option (Option Nat) × Nat × Nat)->SortSt->Prop),l<=k->k<=n->(l=k->R (.done (none,l,k)) st)->(l<k->P (l+(k-l) / 2)=true->R (.yield (none,l+(k-l) / 2+1,k)) st)->(l<k->P (l+(k-l) / 2)=false->R (.yield (none,l,l+(k-l) / 2)) st)->wpS (model prog w) A E s (body x (none,l,k)) R st) ->
   wpS (model prog w) A E s (forIn [0:n] (none,lo,hi) body >>= F) Q st:=λlo hi F body h1 h2 h3 h4 hF hb=>by
  refine Qv (wpS_mono (Xz (I:=λx c st'=>st'=st/\∃l k,c=(none,l,k)/\l<=k/\k<=n/\k-l<=n-x/\(∀i,i<l->P i=true)/\(∀i,k<=i->i<n->P i=false))
   (Q:=λc st'=>st'=st/\∃k,c=(none,k,k)/\k<=n/\(∀i,i<k->P i=true)/\(∀i,k<=i->i<n->P i=false)) ?_ ?_ {rfl,lo,hi,rfl,h1,h2,⇑(IU h1 h2),h3,h4}) ?_)
  ·rintro x c st' _ hx ⟨rfl,l,k,rfl,a1,a2,a3,a4,a5⟩;refine hb x l k _ a1 a2 (λe=>?_) (λe p=>?_) (λe p=>?_)
   ·subst e;exact⟨rfl,l,rfl,a2,a4,a5⟩
   ·exact{rfl,_,k,rfl,⇑(IT e),a2,DH a3,λi hi=>mono i _ ⇑(IS hi) ⇑(IR a2 e) p,a5}
   exact{rfl,l,_,rfl,⇑IQ,⇑(IP a2 e),DF a3 e,a4,λi h1 h2=>monoF _ i h1 h2 p}
  ·rintro c st' ⟨rfl,l,k,rfl,a1,a2,a3,a4,a5⟩;have:l=k:=by exact D4 a1 a3
   subst this;exact⟨rfl,l,rfl,a2,a4,a5⟩
  rintro c st' ⟨rfl,k,rfl,a2,a4,a5⟩;rw[hF];exact Qy (h k a2 a4 a5)
 dsimp only
 cases hp:P hint with
 | true =>
  refine aW rfl ?_
  refine Qv (wpS_mono (Xz (I:=λx c st'=>st'=st/\∃l o,c=(none,l,o)/\l<o/\x+1<=o/\hint+l<n/\P (hint+l)=true)
   (Q:=λc st'=>st'=st/\∃l o,c=(none,l,o)/\l<o/\hint+l<n/\P (hint+l)=true/\(o<n-hint->P (hint+o)=false)) ?_ ?_ {rfl,0,1,rfl,⋯,⋯,⇑(IN hh),hp}) ?_)
  ·rintro x c st' _ hx ⟨rfl,l,o,rfl,a1,a2,a3,a4⟩;dsimp only;by_cases c1:o>=n-hint
   ·refine aW c1 ?_;exact Qy {rfl,l,o,rfl,a1,a3,a4,λz=>by omega}
   refine aV c1 ?_;refine Qv (eK hL hk hkey (hP (hint+o) ⇑(D1 hh c1)) ?_);dsimp only
   cases e:P (hint+o) with
   | true =>
    refine aV Qn ?_;exact Qy {rfl,o,2*o+1,rfl,⇑DX,⋯,⇑(D1 hh c1),e}
   | false =>
   refine aW rfl ?_;exact Qy {rfl,l,o,rfl,a1,a3,a4,λ_=>e}
  ·rintro c st' ⟨rfl,l,o,rfl,a1,a2,a3,a4⟩;exact{rfl,l,o,rfl,a1,a3,a4,λz=>by omega}
  rintro c st' ⟨rfl,l,o,rfl,a1,a3,a4,a5⟩;dsimp only;refine fin _ _ _ _ ⇑(IM hh a1 a3) ⇑(IL hh) (λi hi=>mono i (hint+l) ⇑(IK hi) a3 a4) (λi h1 h2=>?_) (λl k=>rfl) ?_
  ·by_cases z:o<n-hint
   ·exact monoF (hint+o) i ⇑(IJ hh h1 z) h2 (a5 z)
   omega
  intro x l k R h1 h2 q1 q2 q3;dsimp only;by_cases c:l>=k
  ·refine aW c ?_;exact Qy (q1 ⇑(Bc h1 c))
  refine aV c ?_;refine Qv (eK hL hk hkey (hP _ ⇑(DW h2 c)) ?_);dsimp only
  cases e:P (l+(k-l) / 2) with
  | true=>refine aW rfl ?_;exact Qy (q2 ⇑(ym c) e)
  | false=>refine aV Qn ?_;exact Qy (q3 ⇑(ym c) e)
 | false =>
 refine aV Qn ?_
 refine Qv (wpS_mono (Xz (I:=λx c st'=>st'=st/\∃l o,c=(none,l,o)/\l<o/\x+1<=o/\l<=hint/\P (hint-l)=false)
  (Q:=λc st'=>st'=st/\∃l o,c=(none,l,o)/\l<o/\l<=hint/\P (hint-l)=false/\(o<hint+1->P (hint-o)=true)) ?_ ?_ {rfl,0,1,rfl,⋯,⋯,⇑Bb,hp}) ?_)
 ·rintro x c st' _ hx ⟨rfl,l,o,rfl,a1,a2,a3,a4⟩;dsimp only;by_cases c1:o>=hint+1
  ·refine aW c1 ?_;exact Qy {rfl,l,o,rfl,a1,a3,a4,λz=>by omega}
  refine aV c1 ?_;refine Qv (eK hL hk hkey (hP (hint-o) ⇑(II hh a1 c1)) ?_);dsimp only
  cases e:P (hint-o) with
  | true =>
   refine aW rfl ?_;exact Qy {rfl,l,o,rfl,a1,a3,a4,λ_=>e}
  | false =>
  refine aV Qn ?_;exact Qy {rfl,o,2*o+1,rfl,⇑DX,⋯,⇑(IH c1),e}
 ·rintro c st' ⟨rfl,l,o,rfl,a1,a2,a3,a4⟩;exact{rfl,l,o,rfl,a1,a3,a4,λz=>by omega}
 rintro c st' ⟨rfl,l,o,rfl,a1,a3,a4,a5⟩;dsimp only;refine fin _ _ _ _ ⇑(IG a1 a3) ⇑(IF hh a3) (λi hi=>?_) (λi h1 h2=>monoF (hint-l) i h1 h2 a4) (λl k=>rfl) ?_
 ·by_cases z:o<hint+1
  ·exact mono i (hint-o) ⇑(IE hi z) ⇑(ID hh a1 z) (a5 z)
  omega
 intro x l k R h1 h2 q1 q2 q3;dsimp only;by_cases c:l>=k
 ·refine aW c ?_;exact Qy (q1 ⇑(Bc h1 c))
 refine aV c ?_;refine Qv (eK hL hk hkey (hP _ ⇑(DW h2 c)) ?_);dsimp only
 cases e:P (l+(k-l) / 2) with
 | true=>refine aW rfl ?_;exact Qy (q2 ⇑(ym c) e)
 | false=>refine aV Qn ?_;exact Qy (q3 ⇑(ym c) e)
end
section
variable {κ:KeyKind}
def le (κ:KeyKind) (p q:Keyed):Prop:=κ.kle (kv κ p) (kv κ q)
structure MI (κ:KeyKind) (L o x y:List Keyed):Prop where
 perm:(o++(x++y)).Perm L
 so:o.Pairwise (le κ)
 sx:x.Pairwise (le κ)
 sy:y.Pairwise (le κ)
 ox:∀p∈o,∀q∈x,le κ p q
 oy:∀p∈o,∀q∈y,le κ p q
 last:∀q∈y,∀l,x.getLast?=-l->le κ q l
variable {L o x2 y x y2:List Keyed}
theorem MI.takeXs {x1:List Keyed} (h:MI κ L o (x1++x2) y) (hq:∀p∈x1,∀q∈y,le κ p q):MI κ L (o++x1) x2 y:=by
 have sx:=Xg.mp h.sx;refine{?_,Xg.mpr {h.so,sx.1,λp hp q hq=>h.ox p hp q (Qq.mpr (.inl hq))},sx.2.1,h.sy,λp hp q hq'=>?_,λp hp q hq'=>?_,λq hq' l hl=>?_}
 ·have:=h.perm;rwa [Xa,<-Xa o]at this
 ·rcases Qq.mp hp with a|a
  ·exact h.ox p a q (Qq.mpr (.inr hq'))
  exact sx.2.2 p a q hq'
 ·rcases Qq.mp hp with a|a
  ·exact h.oy p a q hq'
  exact hq p a q hq'
 refine h.last q hq' l ?_;rw[List.getLast?_append,hl];rfl
theorem MI.takeYs {y1:List Keyed} (h:MI κ L o x (y1++y2)) (hq:∀q∈y1,∀p∈x,le κ q p):MI κ L (o++y1) x y2:=by
 have sy:=Xg.mp h.sy;refine{?_,Xg.mpr {h.so,sy.1,λp hp q hq=>h.oy p hp q (Qq.mpr (.inl hq))},h.sx,sy.2.1,λp hp q hq'=>?_,λp hp q hq'=>?_,λq hq' l hl=>?_}
 ·refine List.Perm.trans ?_ h.perm;rw[Xa];refine List.Perm.append_left _ ?_;rw[<-Xa,<-Xa];exact List.Perm.append_right _ List.perm_append_comm
 ·rcases Qq.mp hp with a|a
  ·exact h.ox p a q hq'
  exact hq p a q hq'
 ·rcases Qq.mp hp with a|a
  ·exact h.oy p a q (Qq.mpr (.inr hq'))
  exact sy.2.2 p a q hq'
 exact h.last q (Qq.mpr (.inr hq')) l hl
variable {p q r l:Keyed}
theorem le_trans (a:le κ p q) (b:le κ q r):le κ p r:=KeyOrd.kle_trans a b
theorem gy (s:(p::x).Pairwise (le κ)) (h:le κ q p) (hr:r∈p::x):le κ q r:=by
 rcases QP.mp hr with e|e
 ·rw[e];exact h
 exact le_trans h ((List.pairwise_cons.mp s).1 r e)
theorem MI.takeY (h:MI κ L o (p::x) (q::y)) (c:le κ q p):MI κ L (o++[q]) (p::x) y :=
 MI.takeYs (y1:=[q]) h λr hr s hs=>by
  have e:r=q:=by simpa using hr
  subst e;exact gy h.sx c hs
theorem MI.takeX (h:MI κ L o (p::x) (q::y)) (c:le κ p q):MI κ L (o++[p]) x (q::y) :=
 MI.takeXs (x1:=[p]) h λr hr s hs=>by
  have e:r=p:=by simpa using hr
  subst e;exact gy h.sy c hs
def Srt (κ:KeyKind) (L r:List Keyed):Prop:=r.Perm L/\r.Pairwise (le κ)
theorem MI.endY (h:MI κ L o x []):Srt κ L (o++x):={~~~h.perm,Xg.mpr ⟨h.so,h.sx,h.ox⟩}
theorem MI.endX (h:MI κ L o [] y):Srt κ L (o++y):={~~~h.perm,Xg.mpr ⟨h.so,h.sy,h.oy⟩}
theorem MI.lastX (h:MI κ L o [l] y):Srt κ L (o++y++[l]):=by
 refine{List.Perm.trans ?_ h.perm,Xg.mpr {Xg.mpr ⟨h.so,h.sy,h.oy⟩,by simp,λp hp q hq=>?_} }
 ·rw[Xa];exact List.Perm.append_left _ List.perm_append_comm
 have e:q=l:=by simpa using hq
 subst e;rcases Qq.mp hp with a|a
 ·exact h.ox p a q (by simp)
 exact h.last p a q rfl
end
section
structure Gs (st st':SortSt):Prop where
 kind:kindOf st'=kindOf st
 arr:arrOf st'=arrOf st
 pend:pendingOf st'=pendingOf st
 fail:failedOf st'=failedOf st
theorem Gs.refl (st:SortSt):Gs st st:=⟨rfl,rfl,rfl,rfl⟩
theorem Gs.trans {a b c:SortSt} (x:Gs a b) (y:Gs b c):Gs a c:={y.kind.trans x.kind,y.arr.trans x.arr,y.pend.trans x.pend,y.fail.trans x.fail}
def sU:Nat->StateT SortSt Sem Unit:=sortPriv% PySem.Builtin.setMinGallop
variable {g ia ib n m i j:Nat}
theorem fD {st:SortSt} {Q:Unit->SortSt->Prop} (h:∀st',Gs st st'->Q () st'):wpS (model prog w) A E s (sU g) Q st:=by
 unfold sU;exact wpS_modify (h _ ⟨rfl,rfl,rfl,rfl⟩)
theorem iV (a:Array Keyed) (i:Nat):(a.extract i a.size).toList=a.toList.drop i:=by
 have:(a.toList.drop i).length<=a.size-i:=by simp
 simpa using Qw this
theorem jG (a:Array Keyed) (i k:Nat):(a.extract i (i+k)).toList=(a.toList.drop i).take k:=by
 simp
theorem a_ {a:Array Keyed} {i:Nat} (h:i<a.size):∃p,a[i]?=-p/\a.toList.drop i=p::a.toList.drop (i+1)/\p∈a.toList :=
 {a[i],Q7 h,by rw[List.drop_eq_getElem_cons (~~~h)];simp,by simp}
structure LJ (κ:KeyKind) (a b:Array Keyed) (n:Nat) (out:Array Keyed) (ia ib:Nat):Prop where
 mi:MI κ (a.toList++b.toList) out.toList (a.toList.drop ia) (b.toList.drop ib)
 la:ia<=a.size
 lb:ib<=b.size
 lo:out.size=ia+ib
 n:n<=out.size
variable {a b:Array Keyed}
theorem LJ.less {out:Array Keyed} (h:LJ κ a b n out ia ib) (hm:m<=n):LJ κ a b m out ia ib:={h.mi,h.la,h.lb,h.lo,QY hm h.n}
theorem LJ.doneB {out:Array Keyed} (h:LJ κ a b n out ia ib) (e:ib=b.size):Srt κ (a.toList++b.toList) (out++a.extract ia a.size++b.extract ib b.size).toList:=by
 have m:=h.mi;have d:b.toList.drop ib=[]:=by rw[e];simp
 rw[d]at m;rw[QQ,QQ,iV,iV,d,List.append_nil];exact m.endY
theorem LJ.doneA {out:Array Keyed} (h:LJ κ a b n out ia ib) (e:ia=a.size):Srt κ (a.toList++b.toList) (out++a.extract ia a.size++b.extract ib b.size).toList:=by
 have m:=h.mi;have d:a.toList.drop ia=[]:=by rw[e];simp
 rw[d]at m;rw[QQ,QQ,iV,iV,d,List.append_nil];exact m.endX
theorem LJ.lastA {out:Array Keyed} (h:LJ κ a b n out ia ib) (e:ia+1=a.size):Srt κ (a.toList++b.toList) (out++b.extract ib b.size++a.extract ia a.size).toList:=by
 have m:=h.mi;obtain⟨p,_,d,_⟩:=a_ (a:=a) (i:=ia) ⇑(IC e);have d2:a.toList.drop (ia+1)=[]:=by rw[e];simp
 rw[d2]at d;rw[d]at m;rw[QQ,QQ,iV,iV,d];exact m.lastX
variable {p q key:Keyed}
theorem LJ.pushB {out:Array Keyed} (h:LJ κ a b n out ia ib) (ha:a[ia]?=-p) (hb:b[ib]?=-q) (c:le κ q p):LJ κ a b (n+1) (out.push q) ia (ib+1):=by
 have lb:=(Q9.mp hb).1;have la:=(Q9.mp ha).1;obtain⟨p',e1,d1,_⟩:=a_ la;obtain⟨q',e2,d2,_⟩:=a_ lb;rw[ha]at e1;rw[hb]at e2;cases e1;cases e2;have m:=h.mi;rw[d1,d2]at m;have m:=m.takeY c;rw[<-d1]at m;refine{by rw[Array.toList_push];exact m,h.la,lb,by rw[Array.size_push,h.lo];exact Iz,by rw[Array.size_push];have:=h.n;exact uE this}
theorem LJ.pushA {out:Array Keyed} (h:LJ κ a b n out ia ib) (ha:a[ia]?=-p) (hb:b[ib]?=-q) (c:le κ p q):LJ κ a b (n+1) (out.push p) (ia+1) ib:=by
 have lb:=(Q9.mp hb).1;have la:=(Q9.mp ha).1;obtain⟨p',e1,d1,_⟩:=a_ la;obtain⟨q',e2,d2,_⟩:=a_ lb;rw[ha]at e1;rw[hb]at e2;cases e1;cases e2;have m:=h.mi;rw[d1,d2]at m;have m:=m.takeX c;rw[<-d2]at m;refine{by rw[Array.toList_push];exact m,la,h.lb,by rw[Array.size_push,h.lo];exact Iy,by rw[Array.size_push];have:=h.n;exact uE this}
theorem LJ.runA {out:Array Keyed} {k:Nat} (h:LJ κ a b n out ia ib) (hb:b[ib]?=-q) (hk:ia+k<=a.size) (c:∀i,i<k->∀p,a[ia+i]?=-p->le κ p q):LJ κ a b n (out++a.extract ia (ia+k)) (ia+k) ib:=by
 have lb:=(Q9.mp hb).1;obtain⟨q',e2,d2,_⟩:=a_ lb;rw[hb]at e2;cases e2;have m:=h.mi;have sy:=m.sy;rw[<-Q0 k (a.toList.drop ia)]at m
 have m:=m.takeXs λp hp r hr=>by
  obtain⟨i,hi,e⟩:=Qo.mp hp;rw[Qt]at hi;have e3:=Qc (l:=(a.toList.drop ia).take k) (i:=i) (by rw[Qt];exact DV hi);rw[e,List.getElem?_take,QF ⇑(yk hi),XT,QA]at e3;rw[d2]at hr sy;exact gy sy (c i ⇑(yk hi) p e3) hr
 rw[List.drop_drop]at m;have sz:(a.extract ia (ia+k)).size=k:=by rw[Array.size_extract];exact DU hk
 refine{by rw[QQ,jG];exact m,hk,h.lb,by rw[Xv,sz,h.lo];exact Ix,by rw[Xv];have:=h.n;exact DT sz this}
theorem LJ.runB {out:Array Keyed} {k:Nat} (h:LJ κ a b n out ia ib) (ha:a[ia]?=-p) (hk:ib+k<=b.size) (c:∀i,i<k->∀q,b[ib+i]?=-q->le κ q p):LJ κ a b n (out++b.extract ib (ib+k)) ia (ib+k):=by
 have la:=(Q9.mp ha).1;obtain⟨p',e2,d2,_⟩:=a_ la;rw[ha]at e2;cases e2;have m:=h.mi;have sx:=m.sx;rw[<-Q0 k (b.toList.drop ib)]at m
 have m:=m.takeYs λq hq r hr=>by
  obtain⟨i,hi,e⟩:=Qo.mp hq;rw[Qt]at hi;have e3:=Qc (l:=(b.toList.drop ib).take k) (i:=i) (by rw[Qt];exact DV hi);rw[e,List.getElem?_take,QF ⇑(yk hi),XT,QA]at e3;rw[d2]at hr sx;exact gy sx (c i ⇑(yk hi) q e3) hr
 rw[List.drop_drop]at m;have sz:(b.extract ib (ib+k)).size=k:=by rw[Array.size_extract];exact DU hk
 refine{by rw[QQ,jG];exact m,h.la,hk,by rw[Xv,sz,h.lo];exact Iw,by rw[Xv];have:=h.n;exact DT sz this}
theorem tI (s:a.toList.Pairwise (le κ)) (h:i<=j) (hi:a[i]?=-p) (hj:a[j]?=-q):le κ p q:=by
 by_cases e:i=j
 ·subst e;rw[hi]at hj;cases hj;exact XS _
 have li:=(Q9.mp hi).1;have lj:=(Q9.mp hj).1;have:=(List.pairwise_iff_getElem.mp s) i j (~~~li) (~~~lj) ⇑(DS h e);rw[Q7 li]at hi;rw[Q7 lj]at hj;cases hi;cases hj;simpa using this
theorem gq (hL:iZ κ kd prog w A s) {st:SortSt} {left:Bool} {a:Array Keyed} {base n hint:Nat} {Q:Option Nat->SortSt->Prop} (hk:kindOf st=kd) (hkey:Hk κ key) (ha:∀p∈a.toList,Hk κ p) (hn:base+n<=a.size)
  (sa:∀i j p q,base<=i->i<=j->j<base+n->a[i]?=-p->a[j]?=-q->le κ p q) (hh:hint<n)
  (h:∀k,k<=n->(∀i,i<k->∀p,a[base+i]?=-p->bey κ left key p=true)->(∀i,k<=i->i<n->∀p,a[base+i]?=-p->bey κ left key p=false)->Q (-k) st):wpS (model prog w) A E s (oC left key a base n hint) Q st:=by
 refine qS hL (λi=>match a[base+i]? with|some p=>bey κ left key p|none=>false) hk hkey (λi hi=>?_) (λi j h1 h2 h3=>?_) hh (λk h1 h2 h3=>h k h1 (λi hi p e=>?_) (λi hi hj p e=>?_))
 ·have:base+i<a.size:=by exact DR hn hi
  obtain⟨p,e,_,m⟩:=a_ this;exact{p,e,ha p m,by rw[e]}
 ·obtain⟨p,e,_⟩:=a_ (a:=a) (i:=base+i) ⇑(Iu hn h1 h2);obtain⟨q,e2,_⟩:=a_ (a:=a) (i:=base+j) ⇑(DR hn h2);have l:=sa _ _ p q ⇑wn (show base+i<=base+j by exact Is h1) ⇑(Ir h2) e e2;rw[e2]at h3;rw[e];dsimp only at h3 ⊢;unfold bey at h3 ⊢
  cases left with
  | true =>
   rw[QF rfl]at h3 ⊢;exact KeyOrd.klt_of_kle_of_klt l h3
  | false =>
  rw[QE (by simp)]at h3 ⊢;have h3:κ.kle (kv κ q) (kv κ key):=by simpa[KeyOrd.kle] using h3
  have:=KeyOrd.kle_trans l h3;simpa[KeyOrd.kle] using this
 ·have:=h2 i hi;rwa [e]at this
 have:=h3 i hi hj;rwa [e]at this
theorem oJ (h:bey κ false key p=true):le κ p key:=by
 unfold bey at h;rw[QE (by simp)]at h;simpa[le,KeyOrd.kle] using h
theorem oH (h:bey κ true key p=true):le κ p key:=by
 unfold bey at h;rw[QF rfl]at h;exact KeyOrd.kle_of_klt h
theorem oK (h:bey κ false key p=false):le κ key p:=by
 unfold bey at h;rw[QE (by simp)]at h;exact KeyOrd.kle_of_klt (show κ.blt (kv κ key) (kv κ p)=true by simpa using h)
theorem oM (h:bey κ true key p=false):le κ key p:=by
 unfold bey at h;rw[QF rfl]at h;exact h
end
section
theorem iE {U α β:Type} {M:Model} {Q:α->U->Prop} {st:U} {m:StateT U Sem α} (f:β->StateT U Sem α) (I:β->Prop) (J:∀z,I z->wpS M A E s (f z) Q st) (h:(∀z,I z->wpS M A E s (f z) Q st)->wpS M A E s m Q st):wpS M A E s m Q st:=h J
@[reducible] def Jh (κ:KeyKind) (a b:Array Keyed) (st:SortSt) (x:Nat) (c:Option (Array Keyed) × Array Keyed × Nat × Nat × Nat) (st':SortSt):Prop:=Gs st st'/\∃out ia ib mg,c=(none,out,ia,ib,mg)/\LJ κ a b (x+1) out ia ib/\ia+1<a.size/\ib<b.size
@[reducible] def Jg (κ:KeyKind) (a b:Array Keyed) (st:SortSt)  (c:Option (Array Keyed) × Array Keyed × Nat × Nat × Nat) (st':SortSt):Prop:=Gs st st'/\∃r rest,c=(-r,rest)/\Srt κ (a.toList++b.toList) r.toList
@[reducible] def Jf (κ:KeyKind) (a b:Array Keyed) (st:SortSt) (x x':Nat) (c:Option (Array Keyed) × Array Keyed × Nat × Nat × Nat × Nat) (st':SortSt):Prop:=st'=st/\∃out ia ib ac bc,c=(none,out,ia,ib,ac,bc)/\LJ κ a b (x+1+x') out ia ib/\ia+1<a.size/\ib<b.size
@[reducible] def Je (κ:KeyKind) (a b:Array Keyed) (st:SortSt) (x:Nat) (c:Option (Array Keyed) × Array Keyed × Nat × Nat × Nat × Nat) (st':SortSt):Prop:=st'=st/\((∃r rest,c=(-r,rest)/\Srt κ (a.toList++b.toList) r.toList)\/∃out ia ib ac bc,c=(none,out,ia,ib,ac,bc)/\LJ κ a b (x+1) out ia ib/\ia+1<a.size/\ib<b.size)
@[reducible] def Jd (κ:KeyKind) (a b:Array Keyed) (st:SortSt) (x x':Nat) (c:Option (Array Keyed) × Array Keyed × Nat × Nat × Nat × Nat × Nat) (st':SortSt):Prop:=Gs st st'/\∃out ia ib mg ac bc,c=(none,out,ia,ib,mg,ac,bc)/\LJ κ a b (x+1+x') out ia ib/\ia+1<a.size/\ib<b.size
@[reducible] def Jc (κ:KeyKind) (a b:Array Keyed) (st:SortSt) (x:Nat) (c:Option (Array Keyed) × Array Keyed × Nat × Nat × Nat × Nat × Nat) (st':SortSt):Prop:=Gs st st'/\((∃r rest,c=(-r,rest)/\Srt κ (a.toList++b.toList) r.toList)\/∃out ia ib mg ac bc,c=(none,out,ia,ib,mg,ac,bc)/\LJ κ a b (x+2) out ia ib/\ia+1<a.size/\ib<b.size)
theorem o8 (hL:iZ κ kd prog w A s) {st:SortSt} {a b:Array Keyed} {Q:Array Keyed->SortSt->Prop} (hk:kindOf st=kd) (ha:∀p∈a.toList,Hk κ p) (hb:∀p∈b.toList,Hk κ p)
  (na:1<=a.size) (nb:1<=b.size) (mi:MI κ (a.toList++b.toList) [] a.toList b.toList) (first:∀p∈a.toList,∀q,b[0]?=-q->le κ q p)
  (h:∀r st',Gs st st'->Srt κ (a.toList++b.toList) r.toList->Q r st'):wpS (model prog w) A E s (qu a b) Q st:=by
 have sa:=mi.sx;have sb:=mi.sy;unfold qu;refine Qv (wpS_lift (XU {rfl,?_}));obtain⟨q0,hq0,_⟩:=a_ (a:=b) (i:=0) ⇑(wm nb);obtain⟨p0,hp0,_,mp0⟩:=a_ (a:=a) (i:=0) ⇑(wm na);have j0:LJ κ a b 0 #[] 0 0:={~~~mi,⇑(DQ na),⇑(DQ nb),rfl,QB _};have j1:=j0.pushB hp0 hq0 (first p0 mp0 q0 hq0);have j1:LJ κ a b 1 #[q0] 0 1:=j1;refine Qv (bg hq0 ?_);refine wpS_mono (Q:=λr st'=>Gs st st'/\Srt κ (a.toList++b.toList) r.toList) ?_ (λr st' z=>h r st' z.1 z.2);clear h
 extract_lets out0
 by_cases c1:1=b.size
 ·refine aW (bT c1) ?_;exact Qy {.refl _,j1.doneB c1}
 refine aV (bF c1) ?_;by_cases c2:0+1=a.size
 ·refine aW (bT c2) ?_;exact Qy {.refl _,j1.lastA c2}
 refine aV (bF c2) ?_;refine Qv (wpS_get ?_)
 extract_lets mg0
 refine Qv (wpS_mono (Xz (I:=Jh κ a b st)
  (Q:=Jg κ a b st) ?step ?fin {.refl _,out0,0,1,mg0,rfl,j1,⇑(Iq na c2),⇑(Ip na nb c1 c2)}) ?post)
 case post =>
  rintro c st' ⟨g,r,rest,rfl,hr⟩;exact Qy ⟨g,hr⟩
 case fin =>
  rintro c st' ⟨g,out,ia,ib,mg,rfl,j,l1,l2⟩;have:=j.n;have:=j.lo;omega
 case step =>
  rintro x c st1 _ hx ⟨g,out,ia,ib,mg,rfl,j,l1,l2⟩
  refine Qv (wpS_mono (Xz (I:=Jf κ a b st1 x)
   (Q:=Je κ a b st1 x) ?step1 ?fin1 {rfl,out,ia,ib,0,0,rfl,j,l1,l2}) ?post1)
  case fin1 =>
   rintro c st' ⟨rfl,out,ia,ib,ac,bc,rfl,j,l1,l2⟩;have:=j.n;have:=j.lo;omega
  case step1 =>
   clear j l1 l2;rintro x' c st' _ hx' ⟨rfl,out,ia,ib,ac,bc,rfl,j,l1,l2⟩;obtain⟨p,hp,_,mp⟩:=a_ (a:=a) (i:=ia) ⇑(Ba l1);obtain⟨q,hq,_,mq⟩:=a_ (a:=b) (i:=ib) l2;refine Qv (bg hq (Qv (bg hp (Qv (jK hL (by rw[g.kind];exact hk) (hb q mq) (ha p mp) ?_)))));dsimp only
   cases e:κ.blt (kv κ q) (kv κ p) with
   | true =>
    refine aW rfl ?_;refine Qv (bg hq ?_);have j2:=j.pushB hp hq (KeyOrd.kle_of_klt e);by_cases d1:ib+1=b.size
    ·refine aW (bT d1) ?_;exact Qy {rfl,.inl {_,_,rfl,j2.doneB d1} }
    refine aV (bF d1) ?_;by_cases d2:bc+1>=mg
    ·refine aW d2 ?_;exact Qy {rfl,.inr {_,_,_,_,_,rfl,j2.less ⋯,l1,⇑(A_ l2 d1)} }
    refine aV d2 ?_;exact Qy {rfl,_,_,_,_,_,rfl,j2.less ⇑yj,l1,⇑(A_ l2 d1)}
   | false =>
   refine aV Qn ?_;refine Qv (bg hp ?_);have j2:=j.pushA hp hq e;by_cases d1:ia+1+1=a.size
   ·refine aW (bT d1) ?_;exact Qy {rfl,.inl {_,_,rfl,j2.lastA d1} }
   refine aV (bF d1) ?_;by_cases d2:ac+1>=mg
   ·refine aW d2 ?_;exact Qy {rfl,.inr {_,_,_,_,_,rfl,j2.less ⋯,⇑(DP l1 d1),l2} }
   refine aV d2 ?_;exact Qy {rfl,_,_,_,_,_,rfl,j2.less ⇑yj,⇑(DP l1 d1),l2}
  case post1 =>
   clear j l1 l2;rintro c st' ⟨rfl,⟨r,rest,rfl,hr⟩|⟨out,ia,ib,ac,bc,rfl,j,l1,l2⟩⟩
   ·exact Qy ⟨g,r,_,rfl,hr⟩
   refine Qv (wpS_lift (XU {rfl,?_}))
   refine Qv (wpS_mono (Xz (I:=Jd κ a b st x)
    (Q:=Jc κ a b st x) ?step2 ?fin2 ⟨g,out,ia,ib,_,ac,bc,rfl,j,l1,l2⟩) ?post2)
   case fin2 =>
    rintro c st' ⟨g,out,ia,ib,mg,ac,bc,rfl,j,l1,l2⟩;have:=j.n;have:=j.lo;omega
   case post2 =>
    rintro c st' ⟨g,⟨r,rest,rfl,hr⟩|⟨out,ia,ib,mg,ac,bc,rfl,j,l1,l2⟩⟩
    ·exact Qy ⟨g,r,_,rfl,hr⟩
    refine Qv (fD λst2 g2=>?_);exact Qy {g.trans g2,_,_,_,_,rfl,j,l1,l2}
   case step2 =>
    clear j l1 l2 g;rintro x' c st2 _ hx' ⟨g,out,ia,ib,mg,ac,bc,rfl,j,l1,l2⟩;obtain⟨p,hp,_,mp⟩:=a_ (a:=a) (i:=ia) ⇑(Ba l1);obtain⟨q,hq,_,mq⟩:=a_ (a:=b) (i:=ib) l2
    extract_lets s1 o1 s2 x1 s3 y1 s4 m1 s5 ac1 bc1 ib2 jp mgm
    refine iE (λm=>jp () m) (λ_=>True) (λm _=>?_) (λJ=>?_)
    ·refine Qv (fD λst3 g3=>?_);have g4:=g.trans g3;have hk3:kindOf st3=kd:=by rw[g4.kind];exact hk
     refine Qv (bg hq ?_);refine Qv (gq (a:=a) (base:=ia) (n:=a.size-ia) hL hk3 (hb q mq) ha ⇑(Io l1) (λi j p q _ h _ e1 e2=>tI sa h e1 e2) ⇑(Im l1) λk k1 k2 k3=>?_);dsimp -zeta only
     extract_lets ac2 jp2 o2 x2
     refine iE (λz:Array Keyed × Nat=>jp2 () z.1 z.2) (λz=>LJ κ a b (x+1+x') z.1 z.2 ib/\z.2+1<a.size/\∀p,a[z.2]?=-p->le κ q p) (λz hz=>?_) (λJ2=>?_)
     ·obtain⟨o3,x3⟩:=z;obtain⟨j3,l3,f3⟩:=hz;dsimp only at j3 l3 f3;obtain⟨p3,hp3,_,mp3⟩:=a_ (a:=a) (i:=x3) ⇑(Ba l3);refine Qv (bg hq ?_);have j4:=j3.pushB hp3 hq (f3 p3 hp3);by_cases d1:ib+1=b.size
      ·refine aW (bT d1) ?_;exact Qy {g4,.inl {_,_,rfl,j4.doneB d1} }
      refine aV (bF d1) ?_;refine Qv (bg hp3 ?_);refine Qv (gq (a:=b) (base:=ib+1) (n:=b.size-(ib+1)) hL hk3 (ha p3 mp3) hb ⇑(Il l2) (λi j p q _ h _ e1 e2=>tI sb h e1 e2) ⇑(Ik l2 d1) λk' k1' k2' k3'=>?_);dsimp -zeta only
      extract_lets bc2 ia2 jp3 o4 y4
      refine iE (λz:Array Keyed × Nat=>jp3 () z.1 z.2) (λz=>LJ κ a b (x+1+x'+1) z.1 x3 z.2/\z.2<b.size/\∀q,b[z.2]?=-q->le κ p3 q) (λz hz=>?_) (λJ3=>?_)
      ·obtain⟨o5,y5⟩:=z;obtain⟨j5,l5,f5⟩:=hz;dsimp only at j5 l5 f5;obtain⟨q5,hq5,_,mq5⟩:=a_ (a:=b) (i:=y5) l5;refine Qv (bg hp3 ?_);have j6:=j5.pushA hp3 hq5 (f5 q5 hq5);by_cases d2:x3+1+1=a.size
       ·refine aW (bT d2) ?_;exact Qy {g4,.inl {_,_,rfl,j6.lastA d2} }
       refine aV (bF d2) ?_;by_cases d3:(decide (ac2<7)&&decide (bc2<7))=true
       ·refine aW d3 ?_;exact Qy {g4,.inr {_,_,_,_,_,_,rfl,j6.less ⋯,⋯,l5} }
       refine aV d3 ?_;exact Qy {g4,_,_,_,_,_,_,rfl,j6.less ⇑DO,⋯,l5}
      by_cases d2:k'>0
      ·refine aW d2 ?_;have j5:LJ κ a b (x+1+x'+1) o4 x3 y4:=j4.runB hp3 ⇑(Ij l2 k1') λi hi p e=>oH (k2' i hi p e);have e2:y4=ib+1+k':=rfl;by_cases d3:y4=b.size
       ·refine aW (bT d3) ?_;exact Qy {g4,.inl {_,_,rfl,j5.doneB d3} }
       refine aV (bF d3) ?_;exact J3 (o4,y4) {j5,by dsimp only;omega,λp e=>oM (k3' k' (Qh _) ⋯ p e)}
      refine aV d2 ?_;have:k'=0:=by exact DN d2
      subst this;exact J3 (_,ib+1) {j4,by dsimp only;exact A_ l2 d1,λp e=>oM (k3' 0 (Qh _) ⇑(Ii l2 d1 k1') p e)}
     by_cases d1:k>0
     ·refine aW d1 ?_;have j3:LJ κ a b (x+1+x') o2 x2 ib:=j.runA hq ⇑(Ih l1 k1) λi hi p e=>oJ (k2 i hi p e);have e2:x2=ia+k:=rfl;by_cases d2:x2+1=a.size
      ·refine aW (bT d2) ?_;exact Qy {g4,.inl {_,_,rfl,j3.lastA d2} }
      refine aV (bF d2) ?_;by_cases d3:x2=a.size
      ·refine aW (bT d3) ?_;exact Qy {g4,.inl {_,_,rfl,j3.doneA d3} }
      refine aV (bF d3) ?_;exact J2 (o2,x2) {j3,by dsimp only;omega,λp e=>oK (k3 k (Qh _) ⋯ p e)}
     refine aV d1 ?_;have:k=0:=by exact DN d1
     subst this;exact J2 (o1,x1) {j,l1,λp e=>oK (k3 0 (Qh _) ⇑(Ig l1 k1) p e)}
    by_cases d:m1>1
    ·refine aW d ?_;exact J _ trivial
    refine aV d ?_;exact J _ trivial
end
noncomputable def BB (κ:KeyKind):KeyKind where
 α:=κ.α
 blt a b:=κ.blt b a
 irrefl a:=κ.irrefl a
 trans a b c h1 h2:=κ.trans c b a h2 h1
 negTrans a b c h:=(κ.negTrans c b a h).symm
 total a b h1 h2:=(κ.total a b h2 h1)
 keyOf:=κ.keyOf
 dflt:=κ.dflt
section
variable {κ:KeyKind}
theorem vU {l:List Keyed} (h:l.Pairwise (le κ)):l.reverse.Pairwise (le (BB κ)):=List.pairwise_reverse.mpr h
theorem ny {L r:List Keyed} (h:Srt (BB κ) L r):Srt κ L r.reverse:={(List.reverse_perm r).trans h.1,List.pairwise_reverse.mpr h.2}
variable {p q:Keyed}
theorem c9 {a:Array Keyed} {i:Nat} (hi:1<=i) (h:a[i-1]?=-p):(a.toList.take i).reverse=p::(a.toList.take (i-1)).reverse:=by
 obtain⟨j,rfl⟩:∃j,i=j+1:={i-1,⇑(Ie hi)};rw[Nat.add_sub_cancel]at h ⊢;rw[QX,QA,h,List.reverse_append];rfl
structure HJ (κ:KeyKind) (a b:Array Keyed) (n:Nat) (out:Array Keyed) (na nb:Nat):Prop where
 mi:MI (BB κ) (a.toList++b.toList) out.toList (b.toList.take nb).reverse (a.toList.take na).reverse
 la:na<=a.size
 lb:nb<=b.size
 lo:out.size+na+nb=a.size+b.size
 n:n<=out.size
variable {na nb n m i j:Nat} {a b:Array Keyed}
theorem HJ.less {out:Array Keyed} (h:HJ κ a b n out na nb) (hm:m<=n):HJ κ a b m out na nb:={h.mi,h.la,h.lb,h.lo,QY hm h.n}
theorem fw (a:Array Keyed) (i:Nat):(a.extract 0 i).toList=a.toList.take i:=by simp
theorem HJ.doneA {out:Array Keyed} (h:HJ κ a b n out na nb) (e:na=0):Srt κ (a.toList++b.toList) (a.extract 0 na++b.extract 0 nb++out.reverse).toList:=by
 subst e;have:=ny (MI.endY (~~~h.mi));rw[QQ,QQ,fw,fw,Array.toList_reverse];simpa using this
theorem HJ.doneB {out:Array Keyed} (h:HJ κ a b n out na nb) (e:nb=0):Srt κ (a.toList++b.toList) (a.extract 0 na++b.extract 0 nb++out.reverse).toList:=by
 subst e;have:=ny (MI.endX (~~~h.mi));rw[QQ,QQ,fw,fw,Array.toList_reverse];simpa using this
theorem HJ.firstB {out:Array Keyed} (h:HJ κ a b n out na nb) (e:nb=1):Srt κ (a.toList++b.toList) (b.extract 0 nb++a.extract 0 na++out.reverse).toList:=by
 subst e;obtain⟨q,hq,_⟩:=a_ (a:=b) (i:=0) (by have:=h.lb;exact wm this);have m:=h.mi;have tr:=c9 (a:=b) (i:=1) (Qh _) hq;rw[Nat.sub_self,List.take_zero,List.reverse_nil]at tr;rw[tr]at m;have:=ny m.lastX
 have t1:b.toList.take 1=[q]:=by
  have:=congrArg List.reverse tr;simpa using this
 rw[QQ,QQ,fw,fw,Array.toList_reverse,t1];simpa using this
theorem HJ.pushA {out:Array Keyed} (h:HJ κ a b n out na nb) (n1:1<=na) (n2:1<=nb) (ha:a[na-1]?=-p) (hb:b[nb-1]?=-q) (c:le κ q p):HJ κ a b (n+1) (out.push p) (na-1) nb:=by
 have m:=h.mi;rw[c9 n1 ha,c9 n2 hb]at m;have m:=m.takeY c;rw[<-c9 n2 hb]at m;refine{by rw[Array.toList_push];exact m,by have:=h.la;exact DM n1 this,h.lb,by rw[Array.size_push];have:=h.lo;exact Idz n1 this,by rw[Array.size_push];have:=h.n;exact uE this}
theorem HJ.pushB {out:Array Keyed} (h:HJ κ a b n out na nb) (n1:1<=na) (n2:1<=nb) (ha:a[na-1]?=-p) (hb:b[nb-1]?=-q) (c:le κ p q):HJ κ a b (n+1) (out.push q) na (nb-1):=by
 have m:=h.mi;rw[c9 n1 ha,c9 n2 hb]at m;have m:=m.takeX c;rw[<-c9 n1 ha]at m;refine{by rw[Array.toList_push];exact m,h.la,by have:=h.lb;exact DM n2 this,by rw[Array.size_push];have:=h.lo;exact Ic n2 this,by rw[Array.size_push];have:=h.n;exact uE this}
theorem pj (l:List Keyed) (h:i<=j):(l.take j).reverse=((l.take j).drop i).reverse++(l.take i).reverse:=by
 rw[<-List.reverse_append];congr 1;have:=Q0 i (l.take j);rw[List.take_take,Nat.min_eq_left h]at this;exact this.symm
theorem tP (a:Array Keyed) (h:i<=j):(a.extract i j).reverse.toList=((a.toList.take j).drop i).reverse:=by
 simp[List.drop_take]
theorem tF (h:p∈((a.toList.take j).drop i).reverse):∃k,i<=k/\k<j/\a[k]?=-p:=by
 rw[List.mem_reverse]at h;obtain⟨m,hm,e⟩:=Qo.mp h;rw[Q5,Qt]at hm;have e3:=Qc (l:=(a.toList.take j).drop i) (i:=m) (by rw[Q5,Qt];exact Ib hm);rw[e,XT,List.getElem?_take,QF ⇑(DL hm),QA]at e3;exact{i+m,⇑wn,⇑(DL hm),e3}
theorem HJ.runA {out:Array Keyed} {k:Nat} (h:HJ κ a b n out na nb) (n2:1<=nb) (hb:b[nb-1]?=-q) (hk:k<=na) (c:∀i,k<=i->i<na->∀p,a[i]?=-p->le κ q p):HJ κ a b n (out++(a.extract k na).reverse) k nb:=by
 have m:=h.mi;have sx:=m.sx;rw[pj _ hk]at m
 have m:=m.takeYs λp hp r hr=>by
  obtain⟨i,h1,h2,e⟩:=tF hp;rw[c9 n2 hb]at hr sx;exact gy sx (c i h1 h2 p e) hr
 have sz:(a.extract k na).reverse.size=na-k:=by rw[Array.size_reverse,Array.size_extract];have:=h.la;exact DK hk this
 refine{by rw[QQ,tP _ hk];exact m,by have:=h.la;exact DJ hk this,h.lb,by rw[Xv,sz];have:=h.lo;omega,by rw[Xv];have:=h.n;exact DI sz this}
theorem HJ.runB {out:Array Keyed} {k:Nat} (h:HJ κ a b n out na nb) (n1:1<=na) (ha:a[na-1]?=-p) (hk:k<=nb) (c:∀i,k<=i->i<nb->∀q,b[i]?=-q->le κ p q):HJ κ a b n (out++(b.extract k nb).reverse) na k:=by
 have m:=h.mi;have sy:=m.sy;rw[pj _ hk]at m
 have m:=m.takeXs λq hq r hr=>by
  obtain⟨i,h1,h2,e⟩:=tF hq;rw[c9 n1 ha]at hr sy;exact gy sy (c i h1 h2 q e) hr
 have sz:(b.extract k nb).reverse.size=nb-k:=by rw[Array.size_reverse,Array.size_extract];have:=h.lb;exact DK hk this
 refine{by rw[QQ,tP _ hk];exact m,h.la,by have:=h.lb;exact DJ hk this,by rw[Xv,sz];have:=h.lo;omega,by rw[Xv];have:=h.n;exact DI sz this}
end
section
@[reducible] def Jn (κ:KeyKind) (a b:Array Keyed) (st:SortSt) (x:Nat) (c:Option (Array Keyed) × Nat × Nat × Array Keyed × Nat) (st':SortSt):Prop:=Gs st st'/\∃na nb out mg,c=(none,na,nb,out,mg)/\HJ κ a b (x+1) out na nb/\1<=na/\2<=nb
@[reducible] def Jm (κ:KeyKind) (a b:Array Keyed) (st:SortSt)  (c:Option (Array Keyed) × Nat × Nat × Array Keyed × Nat) (st':SortSt):Prop:=Gs st st'/\∃r rest,c=(-r,rest)/\Srt κ (a.toList++b.toList) r.toList
@[reducible] def Jl (κ:KeyKind) (a b:Array Keyed) (st:SortSt) (x x':Nat) (c:Option (Array Keyed) × Nat × Nat × Array Keyed × Nat × Nat) (st':SortSt):Prop:=st'=st/\∃na nb out ac bc,c=(none,na,nb,out,ac,bc)/\HJ κ a b (x+1+x') out na nb/\1<=na/\2<=nb
@[reducible] def Jk (κ:KeyKind) (a b:Array Keyed) (st:SortSt) (x:Nat) (c:Option (Array Keyed) × Nat × Nat × Array Keyed × Nat × Nat) (st':SortSt):Prop:=st'=st/\((∃r rest,c=(-r,rest)/\Srt κ (a.toList++b.toList) r.toList)\/∃na nb out ac bc,c=(none,na,nb,out,ac,bc)/\HJ κ a b (x+1) out na nb/\1<=na/\2<=nb)
@[reducible] def Jj (κ:KeyKind) (a b:Array Keyed) (st:SortSt) (x x':Nat) (c:Option (Array Keyed) × Nat × Nat × Array Keyed × Nat × Nat × Nat) (st':SortSt):Prop:=Gs st st'/\∃na nb out mg ac bc,c=(none,na,nb,out,mg,ac,bc)/\HJ κ a b (x+1+x') out na nb/\1<=na/\2<=nb
@[reducible] def Ji (κ:KeyKind) (a b:Array Keyed) (st:SortSt) (x:Nat) (c:Option (Array Keyed) × Nat × Nat × Array Keyed × Nat × Nat × Nat) (st':SortSt):Prop:=Gs st st'/\((∃r rest,c=(-r,rest)/\Srt κ (a.toList++b.toList) r.toList)\/∃na nb out mg ac bc,c=(none,na,nb,out,mg,ac,bc)/\HJ κ a b (x+2) out na nb/\1<=na/\2<=nb)
theorem o9 (hL:iZ κ kd prog w A s) {st:SortSt} {a b:Array Keyed} {Q:Array Keyed->SortSt->Prop} (hk:kindOf st=kd) (ha:∀p∈a.toList,Hk κ p) (hb:∀p∈b.toList,Hk κ p)
  (na:1<=a.size) (nb:1<=b.size) (sa:a.toList.Pairwise (le κ)) (sb:b.toList.Pairwise (le κ)) (first:∀p∈a.toList,∀q,b[0]?=-q->le κ q p) (last:∀q∈b.toList,∀p,a[a.size-1]?=-p->le κ q p)
  (h:∀r st',Gs st st'->Srt κ (a.toList++b.toList) r.toList->Q r st'):wpS (model prog w) A E s (qw a b) Q st:=by
 unfold qw;refine Qv (wpS_lift (XU {rfl,?_}));obtain⟨q0,hq0,_,mq0⟩:=a_ (a:=b) (i:=b.size-1) ⇑(uD nb);obtain⟨qf,hqf,_,mqf⟩:=a_ (a:=b) (i:=0) ⇑(wm nb);obtain⟨p0,hp0,_,mp0⟩:=a_ (a:=a) (i:=a.size-1) ⇑(uD na)
 have j0:HJ κ a b 0 #[] a.size b.size:=by
  have e1:a.toList.take a.size=a.toList:=Qw (by simp);have e2:b.toList.take b.size=b.toList:=Qw (by simp);refine{ {?_,List.Pairwise.nil,by rw[e2];exact vU sb,by rw[e1];exact vU sa,λp hp=>(nomatch hp),λp hp=>(nomatch hp),λq hq l hl=>?_},Qh _,Qh _,by simp,QB _}
  ·rw[e1,e2];show ([]++(b.toList.reverse++a.toList.reverse)).Perm _;rw[List.nil_append,<-List.reverse_append];exact List.reverse_perm _
  rw[e1,List.mem_reverse]at hq;rw[e2,List.getLast?_reverse]at hl;refine first q hq l ?_;rw[<-QA,<-List.head?_eq_getElem?];exact hl
 have j1:=j0.pushA na nb hp0 hq0 (last q0 mq0 p0 hp0);have j1:HJ κ a b 1 #[p0] (a.size-1) b.size:=j1
 extract_lets tot dn fb na0 nb0 z0
 refine Qv (bg hp0 ?_);refine wpS_mono (Q:=λr st'=>Gs st st'/\Srt κ (a.toList++b.toList) r.toList) ?_ (λr st' z=>h r st' z.1 z.2);clear h
 extract_lets out0
 by_cases c1:na0=0
 ·refine aW (bT c1) ?_;exact Qy {.refl _,j1.doneA c1}
 refine aV (bF c1) ?_;by_cases c2:b.size=1
 ·refine aW (bT c2) ?_;exact Qy {.refl _,j1.firstB c2}
 refine aV (bF c2) ?_;refine Qv (wpS_get ?_)
 extract_lets mg0
 have e0:na0=a.size-1:=rfl
 refine Qv (wpS_mono (Xz (I:=Jn κ a b st)
  (Q:=Jm κ a b st) ?step ?fin {.refl _,na0,nb0,out0,mg0,rfl,j1,⇑(Ia na nb c1 c2),⋯}) ?post)
 case post =>
  rintro c st' ⟨g,r,rest,rfl,hr⟩;exact Qy ⟨g,hr⟩
 case fin =>
  rintro c st' ⟨g,na,nb,out,mg,rfl,j,l1,l2⟩;have:=j.n;have:=j.lo;omega
 case step =>
  rintro x c st1 _ hx ⟨g,na,nb,out,mg,rfl,j,l1,l2⟩
  refine Qv (wpS_mono (Xz (I:=Jl κ a b st1 x)
   (Q:=Jk κ a b st1 x) ?step1 ?fin1 {rfl,na,nb,out,0,0,rfl,j,l1,l2}) ?post1)
  case fin1 =>
   rintro c st' ⟨rfl,na,nb,out,ac,bc,rfl,j,l1,l2⟩;have:=j.n;have:=j.lo;omega
  case step1 =>
   clear j l1 l2;rintro x' c st' _ hx' ⟨rfl,na,nb,out,ac,bc,rfl,j,l1,l2⟩;have la:=j.la;have lb:=j.lb;obtain⟨p,hp,_,mp⟩:=a_ (a:=a) (i:=na-1) ⇑(A9 l1 la);obtain⟨q,hq,_,mq⟩:=a_ (a:=b) (i:=nb-1) ⇑(A8 l2 lb);refine Qv (bg hq (Qv (bg hp (Qv (jK hL (by rw[g.kind];exact hk) (hb q mq) (ha p mp) ?_)))));dsimp -zeta only
   cases e:κ.blt (kv κ q) (kv κ p) with
   | true =>
    refine aW rfl ?_;refine Qv (bg hp ?_);have j2:=j.pushA l1 ⇑(wj l2) hp hq (KeyOrd.kle_of_klt e);by_cases d1:na-1=0
    ·refine aW (bT d1) ?_;exact Qy {rfl,.inl {_,_,rfl,j2.doneA d1} }
    refine aV (bF d1) ?_;by_cases d2:ac+1>=mg
    ·refine aW d2 ?_;exact Qy {rfl,.inr {_,_,_,_,_,rfl,j2.less ⋯,⇑(Dx l1 d1),l2} }
    refine aV d2 ?_;exact Qy {rfl,_,_,_,_,_,rfl,j2.less ⇑yj,⇑(Dx l1 d1),l2}
   | false =>
   refine aV Qn ?_;refine Qv (bg hq ?_);have j2:=j.pushB l1 ⇑(wj l2) hp hq e;by_cases d1:nb-1=1
   ·refine aW (bT d1) ?_;exact Qy {rfl,.inl {_,_,rfl,j2.firstB d1} }
   refine aV (bF d1) ?_;by_cases d2:bc+1>=mg
   ·refine aW d2 ?_;exact Qy {rfl,.inr {_,_,_,_,_,rfl,j2.less ⋯,l1,⇑(Dw l2 d1)} }
   refine aV d2 ?_;exact Qy {rfl,_,_,_,_,_,rfl,j2.less ⇑yj,l1,⇑(Dw l2 d1)}
  case post1 =>
   clear j l1 l2;rintro c st' ⟨rfl,⟨r,rest,rfl,hr⟩|⟨na,nb,out,ac,bc,rfl,j,l1,l2⟩⟩
   ·exact Qy ⟨g,r,_,rfl,hr⟩
   refine Qv (wpS_lift (XU {rfl,?_}))
   refine Qv (wpS_mono (Xz (I:=Jj κ a b st x)
    (Q:=Ji κ a b st x) ?step2 ?fin2 ⟨g,na,nb,out,_,ac,bc,rfl,j,l1,l2⟩) ?post2)
   case fin2 =>
    rintro c st' ⟨g,na,nb,out,mg,ac,bc,rfl,j,l1,l2⟩;have:=j.n;have:=j.lo;omega
   case post2 =>
    rintro c st' ⟨g,⟨r,rest,rfl,hr⟩|⟨na,nb,out,mg,ac,bc,rfl,j,l1,l2⟩⟩
    ·exact Qy ⟨g,r,_,rfl,hr⟩
    refine Qv (fD λst2 g2=>?_);exact Qy {g.trans g2,_,_,_,_,rfl,j,l1,l2}
   case step2 =>
    clear j l1 l2 g;rintro x' c st2 _ hx' ⟨g,na,nb,out,mg,ac,bc,rfl,j,l1,l2⟩;have la:=j.la;have lb:=j.lb;obtain⟨p,hp,_,mp⟩:=a_ (a:=a) (i:=na-1) ⇑(A9 l1 la);obtain⟨q,hq,_,mq⟩:=a_ (a:=b) (i:=nb-1) ⇑(A8 l2 lb)
    extract_lets s1 x1 s2 y1 s3 o1 s4 m1 s5 ac1 bc1 nb2 jp mgm
    refine iE (λm=>jp () m) (λ_=>True) (λm _=>?_) (λJ=>?_)
    ·refine Qv (fD λst3 g3=>?_);have g4:=g.trans g3;have hk3:kindOf st3=kd:=by rw[g4.kind];exact hk
     refine Qv (bg hq ?_);refine Qv (gq (a:=a) (base:=0) (n:=na) (hint:=na-1) hL hk3 (hb q mq) ha ⇑(H_ la) (λi j p q _ h _ e1 e2=>tI sa h e1 e2) ⇑(uD l1) λk k1 k2 k3=>?_);simp only[Nat.zero_add]at k2 k3;dsimp -zeta only
     extract_lets kk ac2 jp2 o2 x2
     refine iE (λz:Nat × Array Keyed=>jp2 () z.1 z.2) (λz=>HJ κ a b (x+1+x') z.2 z.1 nb/\1<=z.1/\∀p,a[z.1-1]?=-p->le κ p q) (λz hz=>?_) (λJ2=>?_)
     ·obtain⟨x3,o3⟩:=z;obtain⟨j3,l3,f3⟩:=hz;dsimp only at j3 l3 f3;have la3:=j3.la;obtain⟨p3,hp3,_,mp3⟩:=a_ (a:=a) (i:=x3-1) ⇑(A9 l3 la3);refine Qv (bg hq ?_);have j4:=j3.pushB l3 ⇑(wj l2) hp3 hq (f3 p3 hp3);by_cases d1:nb-1=1
      ·refine aW (bT d1) ?_;exact Qy {g4,.inl {_,_,rfl,j4.firstB d1} }
      refine aV (bF d1) ?_;refine Qv (bg hp3 ?_);refine Qv (gq (a:=b) (base:=0) (n:=nb-1) (hint:=nb-1-1) hL hk3 (ha p3 mp3) hb ⇑(HZ l2 lb) (λi j p q _ h _ e1 e2=>tI sb h e1 e2) ⇑(HY l2) λk' k1' k2' k3'=>?_);simp only[Nat.zero_add]at k2' k3';dsimp -zeta only
      extract_lets kk' bc2 na4 jp3 o4 y4
      refine iE (λz:Nat × Array Keyed=>jp3 () z.1 z.2) (λz=>HJ κ a b (x+1+x'+1) z.2 x3 z.1/\2<=z.1/\∀q,b[z.1-1]?=-q->le κ q p3) (λz hz=>?_) (λJ3=>?_)
      ·obtain⟨y5,o5⟩:=z;obtain⟨j5,l5,f5⟩:=hz;dsimp only at j5 l5 f5;have lb5:=j5.lb;obtain⟨q5,hq5,_,mq5⟩:=a_ (a:=b) (i:=y5-1) ⇑(A8 l5 lb5);refine Qv (bg hp3 ?_);have j6:=j5.pushA l3 ⇑(wj l5) hp3 hq5 (f5 q5 hq5);by_cases d2:x3-1=0
       ·refine aW (bT d2) ?_;exact Qy {g4,.inl {_,_,rfl,j6.doneA d2} }
       refine aV (bF d2) ?_;by_cases d3:(decide (ac2<7)&&decide (bc2<7))=true
       ·refine aW d3 ?_;exact Qy {g4,.inr {_,_,_,_,_,_,rfl,j6.less ⋯,⋯,l5} }
       refine aV d3 ?_;exact Qy {g4,_,_,_,_,_,_,rfl,j6.less ⇑DO,⋯,l5}
      have ek':kk'=nb-1-k':=rfl;by_cases d2:kk'>0
      ·refine aW d2 ?_;have j5:HJ κ a b (x+1+x'+1) o4 x3 y4:=j4.runB l3 hp3 ⇑(HX k1') λi h1 h2 p e=>oM (k3' i h1 h2 p e);have e2:y4=k':=rfl;by_cases d3:y4=1
       ·refine aW (bT d3) ?_;exact Qy {g4,.inl {_,_,rfl,j5.firstB d3} }
       refine aV (bF d3) ?_;by_cases d4:y4=0
       ·refine aW (bT d4) ?_;exact Qy {g4,.inl {_,_,rfl,j5.doneB d4} }
       refine aV (bF d4) ?_;exact J3 (y4,o4) {j5,by dsimp only;exact HW d3 d4,λq e=>oH (k2' (y4-1) ⋯ q e)}
      refine aV d2 ?_;exact J3 (nb-1,_) {j4,Dz l2 d1,λq e=>oH (k2' (nb-1-1) ⇑(HV l2 ek' d2) q e)}
     have ek:kk=na-k:=rfl;by_cases d1:kk>0
     ·refine aW d1 ?_;have j3:HJ κ a b (x+1+x') o2 x2 nb:=j.runA ⇑(wj l2) hq ⇑(A7 k1) λi h1 h2 p e=>oK (k3 i h1 h2 p e);have e2:x2=k:=rfl;by_cases d2:x2=0
      ·refine aW (bT d2) ?_;exact Qy {g4,.inl {_,_,rfl,j3.doneA d2} }
      refine aV (bF d2) ?_;exact J2 (x2,o2) {j3,by dsimp only;exact FT d2,λp e=>oJ (k2 (x2-1) ⋯ p e)}
     refine aV d1 ?_;exact J2 (na,out) {j,l1,λp e=>oJ (k2 (na-1) ⇑(FS l1 ek d1) p e)}
    by_cases d:m1>1
    ·refine aW d ?_;exact J _ trivial
    refine aV d ?_;exact J _ trivial
end
section
structure Sg (lo:Nat) (st st':SortSt):Prop where
 kind:kindOf st'=kindOf st
 pend:pendingOf st'=pendingOf st
 fail:failedOf st'=failedOf st
 head:∀i,i<lo->(arrOf st')[i]?=(arrOf st)[i]?
 perm:(arrOf st').Perm (arrOf st)
theorem Sg.refl (lo:Nat) (st:SortSt):Sg lo st st:={rfl,rfl,rfl,λ_ _=>rfl,Array.Perm.refl _}
variable {a b c st:SortSt} {lo i n nrem:Nat}
theorem Sg.trans (x:Sg lo a b) (y:Sg lo b c):Sg lo a c:={y.kind.trans x.kind,y.pend.trans x.pend,y.fail.trans x.fail,λi h=>(y.head i h).trans (x.head i h),y.perm.trans x.perm}
theorem Sg.size (x:Sg lo a b):(arrOf b).size=(arrOf a).size:=x.perm.size_eq
theorem Sg.keys (x:Sg lo a b) (h:∀p∈(arrOf a).toList,Hk κ p):∀p∈(arrOf b).toList,Hk κ p:=λp hp=>h p ((Array.perm_iff_toList_perm.mp x.perm).mem_iff.mp hp)
variable {xs:Array Keyed}
theorem wS {p:Keyed} (h:xs[i]?=-p):KK κ xs i=kv κ p:=by unfold KK kv;rw[h]
theorem gn (hL:iZ κ kd prog w A s) {i j:Nat} {Q:Option Bool->SortSt->Prop} (hk:kindOf st=kd) (ha:∀p∈(arrOf st).toList,Hk κ p) (hi:i<(arrOf st).size) (hj:j<(arrOf st).size)
  (h:Q (-κ.blt (KK κ (arrOf st) i) (KK κ (arrOf st) j)) st):wpS (model prog w) A E s (ltAt' i j) Q st:=by
 obtain⟨p,hp,_,mp⟩:=a_ hi;obtain⟨q,hq,_,mq⟩:=a_ hj;rw[wS hp,wS hq]at h;rw[ltAt'_eq];exact Qv (wpS_get (Qv (bg hp (Qv (bg hq (jK hL hk (ha p mp) (ha q mq) h))))))
def Up (κ:KeyKind) (xs:Array Keyed) (lo n:Nat):Prop:=∀i j,i<=j->j<n->κ.kle (KK κ xs (lo+i)) (KK κ xs (lo+j))
def oY (κ:KeyKind) (xs:Array Keyed) (lo n:Nat):Prop:=∀i j,i<=j->j<n->κ.kle (KK κ xs (lo+j)) (KK κ xs (lo+i))
theorem Up.one:Up κ xs lo 1:=λi j h1 h2=>by
 have:i=j:=by exact FR h1 h2
 subst this;exact XS _
theorem Up.more (h:Up κ xs lo n) (h1:1<=n) (c:κ.kle (KK κ xs (lo+(n-1))) (KK κ xs (lo+n))):Up κ xs lo (n+1):=λi j hij hj=>by
 by_cases e:j<n
 ·exact h i j hij e
 have:j=n:=by exact Ao hj e
 subst this;by_cases e2:i=j
 ·subst e2;exact XS _
 exact KeyOrd.kle_trans (h i (j-1) ⇑(An hij h1 e2) ⇑(uD h1)) c
theorem oY.more (h:oY κ xs lo n) (h1:1<=n) (c:κ.kle (KK κ xs (lo+n)) (KK κ xs (lo+(n-1)))):oY κ xs lo (n+1):=λi j hij hj=>by
 by_cases e:j<n
 ·exact h i j hij e
 have:j=n:=by exact Ao hj e
 subst this;by_cases e2:i=j
 ·subst e2;exact XS _
 exact KeyOrd.kle_trans c (h i (j-1) ⇑(An hij h1 e2) ⇑(uD h1))
theorem sD {lo a:Nat} {f:Nat->Option (Option Nat) × Nat->StateT SortSt Sem (ForInStep (Option (Option Nat) × Nat))} {Q:Option (Option Nat) × Nat->SortSt->Prop} (h1:1<=a) (h2:a<=nrem) (up:Up κ (arrOf st) lo a)
  (hf:∀x n (R:ForInStep (Option (Option Nat) × Nat)->SortSt->Prop),1<=n->n<nrem->(κ.klt (KK κ (arrOf st) (lo+n)) (KK κ (arrOf st) (lo+(n-1)))->R (.done (none,n)) st)->(κ.kle (KK κ (arrOf st) (lo+(n-1))) (KK κ (arrOf st) (lo+n))->R (.yield (none,n+1)) st)->wpS (model prog w) A E s (f x (none,n)) R st)
  (h:∀n,a<=n->n<=nrem->Up κ (arrOf st) lo n->(n=nrem\/κ.klt (KK κ (arrOf st) (lo+n)) (KK κ (arrOf st) (lo+(n-1))))->Q (none,n) st):wpS (model prog w) A E s (forIn [a:nrem] (none,a) f) Q st:=by
 refine Xz (I:=λx c st'=>st'=st/\c=(none,x)/\Up κ (arrOf st) lo x) ?_ ?_ ⟨rfl,rfl,up⟩
 ·rintro x c st' hax hx ⟨rfl,rfl,u⟩;exact hf x x _ ⇑(Am h1 hax) hx (λe=>h x hax ⇑(wu hx) u (.inr e)) λe=>{rfl,rfl,u.more ⇑(Am h1 hax) e}
 rintro c st' ⟨rfl,rfl,u⟩;rw[show max a nrem=nrem by exact FQ h2]at u ⊢;exact h nrem h2 (Qh _) u (.inl rfl)
theorem jv {lo i j:Nat} {Q:Unit->SortSt->Prop} (hi:lo<=i) (hj:j<=(arrOf st).size) (h:∀st',Sg lo st st'->(∀k,KK κ (arrOf st') k=if i<=k/\k<j then KK κ (arrOf st) (i+j-1-k) else KK κ (arrOf st) k)->Q () st'):wpS (model prog w) A E s (reverseSlice' i j) Q st:=by
 rw[reverseSlice'_eq];refine wpS_modify (h _ {rfl,rfl,rfl,λk hk=>?_,mirror_perm _ _ _ _} λk=>KK_mirror hj k);show (mirror (arrOf st) i j ((j-i) / 2))[k]?=_;rw[getElem?_mirror_all hj,QE ⇑(FP hi hk)]
theorem ig {U α β:Type} {M:Model} {Q:α->U->Prop} {st:U} {m:StateT U Sem α} (f:β->StateT U Sem α) (I:β->U->Prop) (J:∀z st',I z st'->wpS M A E s (f z) Q st') (h:(∀z st',I z st'->wpS M A E s (f z) Q st')->wpS M A E s m Q st):wpS M A E s m Q st:=h J
def mY:Nat->Nat->StateT SortSt Sem (Option Nat):=sortPriv% PySem.Builtin.countRun
theorem ub (hL:iZ κ kd prog w A s) {lo nrem:Nat} {Q:Option Nat->SortSt->Prop} (hk:kindOf st=kd) (ha:∀p∈(arrOf st).toList,Hk κ p) (h1:1<=nrem) (hn:lo+nrem<=(arrOf st).size)
  (h:∀m st',Sg lo st st'->1<=m->m<=nrem->Up κ (arrOf st') lo m->Q (-m) st'):wpS (model prog w) A E s (mY lo nrem) Q st:=by
 unfold mY;refine Qv (sD (κ:=κ) (lo:=lo) (Qh 1) h1 Up.one (λx n R a1 a2 r1 r2=>?_) λn a1 a2 up stop=>?_)
 ·extract_lets
  refine Qv (gn hL hk ha ⋯ ⋯ ?_);rw[show lo+n-1=lo+(n-1) by exact Al a1];dsimp -zeta only
  cases e:κ.blt (KK κ (arrOf st) (lo+n)) (KK κ (arrOf st) (lo+(n-1))) with
  | true=>refine aW rfl ?_;exact Qy (r1 e)
  | false=>refine aV Qn ?_;exact Qy (r2 e)
 show wpS _ _ _ _ (if (n==nrem)=true then pure (-n) else _) _ _;by_cases hnn:n=nrem
 ·refine aW (bT hnn) ?_;exact Qy (h n st (.refl _ _) a1 a2 up)
 refine aV (bF hnn) ?_;have lt0:=stop.resolve_left hnn
 extract_lets jn jq jp
 refine ig (λ_:Unit=>jp ()) (λ_ st'=>Sg lo st st'/\oY κ (arrOf st') lo (n+1)) (λ_ st1 hz=>?_) (λJ=>?_)
 ·obtain⟨g1,dn⟩:=hz;refine Qv (wpS_lift (XU {rfl,?_}))
  refine Qv (wpS_mono (Xz (I:=λx c st'=>∃neq,c=(none,x,neq)/\Sg lo st st'/\oY κ (arrOf st') lo x/\neq+1<=x/\∀i,x-(neq+1)<=i->i<x->KK κ (arrOf st') (lo+i)=KK κ (arrOf st') (lo+(x-1)))
   (Q:=λc st'=>∃x neq,c=(none,x,neq)/\Sg lo st st'/\x<=nrem/\oY κ (arrOf st') lo x/\neq+1<=x/\∀i,x-(neq+1)<=i->i<x->KK κ (arrOf st') (lo+i)=KK κ (arrOf st') (lo+(x-1))) ?step ?fin {0,rfl,g1,dn,⋯,λi i1 i2=>by rw[show i=n+1-1 by omega]}) ?post)
  case fin =>
   rintro c st' ⟨neq,rfl,b1,b2,b3,b4⟩;rw[show max (n+1) nrem=nrem by exact FM a2 hnn]at b2 b3 b4 ⊢;exact{nrem,neq,rfl,b1,Qh _,b2,b3,b4}
  case step =>
   rintro x c st' hax hx ⟨neq,rfl,b1,b2,b3,b4⟩;have sz:=b1.size;have hk':kindOf st'=kd:=b1.kind.trans hk;have ha':=b1.keys ha;refine Qv (gn (i:=lo+x) (j:=lo+x-1) hL hk' ha' ⇑(tw hn hx sz) ⋯ ?_);rw[show lo+x-1=lo+(x-1) by exact FK b3];dsimp -zeta only
   extract_lets
   cases e:κ.blt (KK κ (arrOf st') (lo+x)) (KK κ (arrOf st') (lo+(x-1))) with
   | true =>
    refine aW rfl ?_;have d1:=b2.more ⇑(wt b3) (KeyOrd.kle_of_klt e);by_cases c:neq>0
    ·refine aW c ?_;refine Qv (jv (κ:=κ) (lo:=lo) ⇑(Ak b3) ⇑(FJ hn hx sz) λst2 g2 kk=>?_)
     have kk:∀i,KK κ (arrOf st2) (lo+i)=KK κ (arrOf st') (lo+i):=λi=>by
      rw[kk]
      split
      ·rename_i q
       obtain⟨e1,e2,e3,e4,e5⟩:=zU b3 q;rw[e1,b4 _ e2 e3,b4 i e4 e5]
      rfl
     exact Qy {0,rfl,b1.trans g2,λi j h1 h2=>by rw[kk,kk];exact d1 i j h1 h2,⇑Aj,λi i1 i2=>by rw[show i=x+1-1 by exact FI i1 i2]}
    refine aV c ?_;exact Qy {0,rfl,b1,d1,⇑Aj,λi i1 i2=>by rw[show i=x+1-1 by omega]}
   | false =>
   refine aV Qn ?_;refine Qv (gn (i:=lo+(x-1)) (j:=lo+x) hL hk' ha' ⋯ ⇑(tw hn hx sz) ?_);dsimp -zeta only
   cases e2:κ.blt (KK κ (arrOf st') (lo+(x-1))) (KK κ (arrOf st') (lo+x)) with
   | true =>
    refine aW rfl ?_;exact Qy {x,neq,rfl,b1,⇑(wu hx),b2,b3,b4}
   | false =>
   refine aV Qn ?_;have eq:KK κ (arrOf st') (lo+x)=KK κ (arrOf st') (lo+(x-1)):=KeyOrd.kle_antisymm e2 e;refine Qy {neq+1,rfl,b1,b2.more ⇑(wt b3) (by rw[eq];exact XS _),⇑(FH b3),λi i1 i2=>?_};rw[show x+1-1=x by exact FG];by_cases ix:i=x
   ·rw[ix]
   rw[b4 i ⋯ ⇑(FF i2 ix),eq]
  case post =>
   rintro c st2 ⟨x,neq,rfl,b1,b2,b3,b4,b5⟩
   extract_lets r2 s2 n2 q2 jp2
   have sz:=b1.size;refine ig (λ_:Unit=>jp2 ()) (λ_ st'=>Sg lo st st'/\oY κ (arrOf st') lo x) (λ_ st3 hz=>?_) (λJ2=>?_)
   ·obtain⟨g3,dn3⟩:=hz;have sz3:=g3.size;refine Qv (jv (κ:=κ) (lo:=lo) (Qh _) (show lo+x<=_ by exact FE hn b2 sz sz3) λst4 g4 kk=>?_);have g5:=g3.trans g4;have sz5:=g5.size;refine Qv (sD (κ:=κ) (lo:=lo) (show 1<=x by exact wt b4) b2 (λi j h1 h2=>?_) (λy n R a1 a2 r1 r2=>?_) λn a1 a2 up stop=>?_)
    ·have h2:j<x:=h2;rw[kk,kk,QF ⇑(FD h1 h2),QF ⇑(FC h2),show lo+(lo+x)-1-(lo+i)=lo+(x-1-i) by exact wg (Xy h1 h2),show lo+(lo+x)-1-(lo+j)=lo+(x-1-j) by exact wg h2];exact dn3 _ _ ⇑(FB h1 h2) ⇑(FA h1 h2)
    ·refine Qv (gn hL (g5.kind.trans hk) (g5.keys ha) ⋯ ⋯ ?_);rw[show lo+n-1=lo+(n-1) by exact Al a1];dsimp -zeta only
     cases e:κ.blt (KK κ (arrOf st4) (lo+n)) (KK κ (arrOf st4) (lo+(n-1))) with
     | true=>refine aW rfl ?_;exact Qy (r1 e)
     | false=>refine aV Qn ?_;exact Qy (r2 e)
    have a1:x<=n:=a1;exact Qy (h n st4 g5 ⇑(Fy b4 a1) a2 up)
   by_cases c:neq>0
   ·show wpS _ _ _ _ (if neq>0 then _ else _) _ _;refine aW c ?_;refine Qv (jv (κ:=κ) (lo:=lo) (i:=lo+x-(neq+1)) (j:=lo+x) (show lo<=lo+x-(neq+1) by exact Ak b4) (show lo+x<=_ by exact Fx hn b2 sz) λst3 g3 kk=>?_)
    have kk:∀i,KK κ (arrOf st3) (lo+i)=KK κ (arrOf st2) (lo+i):=λi=>by
     rw[kk]
     split
     ·rename_i q
      obtain⟨e1,e2,e3,e4,e5⟩:=zU b4 q;rw[e1,b5 _ e2 e3,b5 i e4 e5]
     rfl
    exact J2 () st3 {b1.trans g3,λi j h1 h2=>by rw[kk,kk];exact b3 i j h1 h2}
   show wpS _ _ _ _ (if neq>0 then _ else _) _ _;refine aV c ?_;exact J2 () st2 ⟨b1,b3⟩
 by_cases c:n>1
 ·refine aW c ?_;refine Qv (gn hL hk ha ⇑(Fv h1 hn) ⋯ ?_);rw[show lo+n-1=lo+(n-1) by exact Ft c];dsimp -zeta only
  cases e:κ.blt (KK κ (arrOf st) lo) (KK κ (arrOf st) (lo+(n-1))) with
  | true =>
   refine aW rfl ?_;exact Qy (h n st (.refl _ _) a1 a2 up)
  | false =>
  refine aV Qn ?_
  have all:∀i,i<n->KK κ (arrOf st) (lo+i)=KK κ (arrOf st) (lo+(n-1)):=λi hi =>
   KeyOrd.kle_antisymm (up i (n-1) ⇑(Fs c hi) ⇑(Fr c)) (KeyOrd.kle_trans e (by have:=up 0 i ⇑Bb hi;rwa [Nat.add_zero]at this))
  refine Qv (jv (κ:=κ) (lo:=lo) (Qh _) (show lo+n<=_ by exact Fq hn a2) λst3 g3 kk=>?_)
  have kk:∀i,KK κ (arrOf st3) (lo+i)=KK κ (arrOf st) (lo+i):=λi=>by
   rw[kk]
   split
   ·rename_i q
    have l:=Nat.lt_of_add_lt_add_left q.2;rw[wg l,all _ (Xy (Nat.sub_le _ _) (Nat.sub_lt (Xy (QB _) l) Nat.zero_lt_one)),all i l]
   rfl
  refine J () st3 {g3,oY.more (λi j h1 h2=>?_) a1 ?_}
  ·rw[kk,kk,all i ⇑(Fp h1 h2),all j h2];exact XS _
  rw[kk,kk];exact KeyOrd.kle_of_klt lt0
 refine aV c ?_;refine J () st {.refl _ _,oY.more (λi j h1 h2=>?_) a1 (KeyOrd.kle_of_klt lt0)};have:i=j:=by exact Fo a1 c h1 h2
 subst this;exact XS _
end
section
def Gg:Nat->Nat->Nat->StateT SortSt Sem Bool:=sortPriv% PySem.Builtin.binarySort
theorem xL (hL:iZ κ kd prog w A s) {st:SortSt} {lo n ok:Nat} {Q:Bool->SortSt->Prop} (hk:kindOf st=kd) (ha:∀p∈(arrOf st).toList,Hk κ p) (h1:ok<=n) (hn:lo+n<=(arrOf st).size) (up:Up κ (arrOf st) lo ok)
  (h:∀st',Sg lo st st'->Up κ (arrOf st') lo n->Q true st'):wpS (model prog w) A E s (Gg lo n ok) Q st:=by
 unfold Gg;refine Qv (wpS_mono (Xz (I:=λk c st'=>c=(none,())/\Sg lo st st'/\Up κ (arrOf st') lo (min k n)) (Q:=λc st'=>c=(none,())/\Sg lo st st'/\Up κ (arrOf st') lo n) ?step ?fin ?init) ?post)
 case post =>
  rintro c st' ⟨rfl,g,u⟩;exact Qy (h st' g u)
 case init =>
  refine{rfl,.refl _ _,λi j hij hj=>?_};by_cases e:ok=0
  ·have:i=j:=by exact Fm hij hj e
   subst this;exact XS _
  exact up i j hij ⇑(Fl h1 hj e)
 case fin =>
  rintro c st' ⟨rfl,g,u⟩;rw[show min (max (max ok 1) n) n=n by exact Fk]at u;exact⟨rfl,g,u⟩
 case step =>
  rintro k c st' k1 k2 ⟨rfl,g,u⟩;rw[show min k n=k by exact Fi k2]at u;have sz:=g.size
  refine Qv (wpS_mono (Xz (I:=λx c st2=>st2=st'/\∃l r,c=(none,l,r)/\l<=r/\r<=k/\r-l<=k-x/\(∀i,i<l->κ.kle (KK κ (arrOf st') (lo+i)) (KK κ (arrOf st') (lo+k)))/\(∀i,r<=i->i<k->κ.kle (KK κ (arrOf st') (lo+k)) (KK κ (arrOf st') (lo+i))))
   (Q:=λc st2=>st2=st'/\∃l,c=(none,l,l)/\l<=k/\(∀i,i<l->κ.kle (KK κ (arrOf st') (lo+i)) (KK κ (arrOf st') (lo+k)))/\(∀i,l<=i->i<k->κ.kle (KK κ (arrOf st') (lo+k)) (KK κ (arrOf st') (lo+i)))) ?istep ?ifin {rfl,0,k,rfl,⇑Bb,⇑Fh,⇑Fg,λi hi=>by omega,λi a b=>by omega}) ?ipost)
  case ifin =>
   rintro c st2 ⟨rfl,l,r,rfl,a1,a2,a3,a4,a5⟩;have:l=r:=by exact D4 a1 a3
   subst this;exact⟨rfl,l,rfl,a2,a4,a5⟩
  case istep =>
   rintro x c st2 _ hx ⟨rfl,l,r,rfl,a1,a2,a3,a4,a5⟩;dsimp -zeta only
   extract_lets
   by_cases c:l>=r
   ·show wpS _ _ _ _ (if l>=r then _ else _) _ _;refine aW c ?_;have:l=r:=by exact Bc a1 c
    subst this;exact Qy ⟨rfl,l,rfl,a2,a4,a5⟩
   show wpS _ _ _ _ (if l>=r then _ else _) _ _;refine aV c ?_;refine Qv (gn (i:=lo+k) (j:=lo+(l+r) / 2) hL (g.kind.trans hk) (g.keys ha) ⇑(tw hn k2 sz) ⋯ ?_);dsimp -zeta only
   cases e:κ.blt (KK κ (arrOf st2) (lo+k)) (KK κ (arrOf st2) (lo+(l+r) / 2)) with
   | true =>
    refine aW rfl ?_;refine Qy {rfl,l,(l+r) / 2,rfl,⇑(Ff c),⇑(Fe a2 c),DC a3 c,a4,λi b1 b2=>?_};exact KeyOrd.kle_trans (KeyOrd.kle_of_klt e) (u _ _ b1 b2)
   | false =>
   refine aV Qn ?_;refine Qy {rfl,(l+r) / 2+1,r,rfl,⇑(Fd c),⇑(A7 a2),DE a3 c,λi b1=>?_,a5};exact KeyOrd.kle_trans (u i ((l+r) / 2) ⇑(Fc b1) ⇑(Fa a2 c)) e
  case ipost =>
   rintro c st2 ⟨rfl,l,rfl,a2,a4,a5⟩;show wpS _ _ _ _ (moveDown' (lo+k) (lo+l) >>= _) _ _;rw[moveDown'_eq];have hks:lo+k<(arrOf st2).size:=by exact tw hn k2 sz
   refine Qv (wpS_modify (Qy {rfl,g.trans {rfl,rfl,rfl,λi hi=>?_,bubble_perm _ _ _},λi j hij hj=>?_}))
   ·show (bubble (arrOf st2) (lo+k) (lo+k-(lo+l)))[i]?=_;rw[getElem?_bubble hks _ ⇑(E_ a2 hi),QE ⇑(E9 a2 hi),QE ⋯]
   rw[show min (k+1) n=k+1 by exact E8 k2]at hj;show κ.kle (KK κ (bubble (arrOf st2) (lo+k) (lo+k-(lo+l))) (lo+i)) (KK κ (bubble (arrOf st2) (lo+k) (lo+k-(lo+l))) (lo+j));rw[KK_bubble hks ⇑(Ai a2),KK_bubble hks ⇑(Ai a2),show lo+k-(lo+k-(lo+l))=lo+l by exact E7 a2];have sh:∀i,l<i->lo+i-1=lo+(i-1):=λi hi=>by exact E6 hi
   by_cases ci:i<l
   ·rw[QE ⇑(Ag ci),QE ⇑(Af ci)];by_cases cj:j<l
    ·rw[QE ⇑(Ag cj),QE ⇑(Af cj)];exact u i j hij ⇑(E5 a2 hj cj)
    by_cases cj2:j=l
    ·rw[QF ⇑(Ae cj2)];exact a4 i ci
    rw[QE ⇑(Ad cj2),QF ⋯,sh j ⇑(Ac cj cj2)];exact u i (j-1) ⇑(E4 hij ci cj) ⇑(E3 a2 hij hj ci)
   by_cases ci2:i=l
   ·rw[QF ⇑(Ae ci2)];by_cases cj2:j=l
    ·rw[QF ⇑(E2 ci2 cj2)];exact XS _
    rw[QE ⇑(E1 ci2 cj2),QF ⋯,sh j ⇑(EZ hij ci2 cj2)];exact a5 (j-1) ⇑(EY hij ci2 cj2) ⇑(EX hij hj ci2 cj2)
   rw[QE ⇑(Ad ci2),QF ⋯,QE ⇑(EW hij ci ci2),QF ⋯,sh i ⇑(Ac ci ci2),sh j ⇑(EV hij ci ci2)];exact u (i-1) (j-1) ⇑(EU hij) ⇑(ET hij hj ci ci2)
end
theorem pW (o:Nat):∀(M:List Keyed) (j:Nat) (arr:Array Keyed) (P S T:List Keyed),arr.toList=P++(S++T)->P.length=o+j->S.length=M.length->((M.zipIdx j).foldl (λa (x:Keyed × Nat)=>a.setIfInBounds (o+x.2) x.1) arr).toList=P++(M++T)
 | [],j,arr,P,S,T,h,hp,hs=>by
  have:S=[]:=Xm hs;subst this;exact h
 | p::M,j,arr,P,[],T,h,hp,hs=>by simp at hs
 | p::M,j,arr,P,q::S,T,h,hp,hs=>by
  rw[List.zipIdx_cons,List.foldl_cons]
  have e:(arr.setIfInBounds (o+j) p).toList=(P++[p])++(S++T):=by
   rw[Array.toList_setIfInBounds,h,List.set_append,QE ⇑(ES hp),show o+j-P.length=0 by exact ER hp];simp
  have:=pW o M (j+1) (arr.setIfInBounds (o+j) p) (P++[p]) S T e (by rw[Qk];simp;exact EQ hp) (~~~hs);rw[this];simp
def fG:Nat->List (List Keyed)->List (Nat × Nat)
 | _,[]=>[]
 | b,r::rs=>(b,r.length)::fG (b+r.length) rs
theorem io (u w:List (List Keyed)):∀b,fG b (u++w)=fG b u++fG (b+u.flatten.length) w:=by
 induction u with
 | nil=>intro b;simp[fG]
 | cons r u ih =>
 intro b;show (b,r.length)::fG (b+r.length) (u++w)=_;rw[ih];show _=(b,r.length)::(fG (b+r.length) u++_);rw[List.flatten_cons,Qk,Nat.add_assoc]
theorem qm (u:List (List Keyed)):∀b,(fG b u).length=u.length:=by
 induction u with
 | nil=>intro b;rfl
 | cons r u ih=>intro b;show (fG _ u).length+1=_;rw[ih];rfl
structure RI (κ:KeyKind) (kd:SortKind) (a₀:Array Keyed) (st:SortSt) (rs:List (List Keyed)) (rest:List Keyed):Prop where
 arr:(arrOf st).toList=rs.flatten++rest
 perm:(arrOf st).Perm a₀
 ok:∀r∈rs,r≠[]/\r.Pairwise (le κ)
 pend:(pendingOf st).toList.map (λp=>(p.1,p.2.1))=fG 0 rs
 kind:kindOf st=kd
 fail:failedOf st=none
theorem x_ {ps:Array (Nat × Nat × Nat)} {u v:List (List Keyed)} {X Y:List Keyed} (h:ps.toList.map (λp=>(p.1,p.2.1))=fG 0 (u++X::Y::v)) :
  ∃p1 p2,ps[u.length]?=-(u.flatten.length,X.length,p1)/\ps[u.length+1]?=some (u.flatten.length+X.length,Y.length,p2) /\
   ((ps.setIfInBounds u.length (u.flatten.length,X.length+Y.length,p1)).eraseIdxIfInBounds (u.length+1)).toList.map (λp=>(p.1,p.2.1))=fG 0 u++(u.flatten.length,X.length+Y.length)::fG (u.flatten.length+X.length+Y.length) v:=by
 rw[io,Nat.zero_add]at h;have h:ps.toList.map (λp=>(p.1,p.2.1))=fG 0 u++(u.flatten.length,X.length)::(u.flatten.length+X.length,Y.length)::fG (u.flatten.length+X.length+Y.length) v:=h;have lu:=qm u 0;obtain⟨l1,l2,e,e1,e2⟩:=List.map_eq_append_iff.mp h
 cases l2 with
 | nil=>simp at e2
 | cons a l2 =>
 cases l2 with
 | nil=>simp at e2
 | cons b l2 =>
 obtain⟨a1,a2,a3⟩:=a;obtain⟨b1,b2,b3⟩:=b;simp only[QN,List.cons.injEq,Prod.mk.injEq]at e2;obtain⟨⟨rfl,rfl⟩,⟨rfl,rfl⟩,e3⟩:=e2;have l1l:l1.length=u.length:=by rw[<-lu,<-e1,Qa]
 have pe:ps=(l1++(u.flatten.length,X.length,a3)::(u.flatten.length+X.length,Y.length,b3)::l2).toArray:=by rw[<-e]
 subst pe;refine{a3,b3,?_,?_,?_}
 ·rw[<-l1l];simp
 ·rw[<-l1l];simp[QK]
 rw[<-l1l,<-e1,<-e3];simp[Array.eraseIdxIfInBounds,List.set_append,List.eraseIdx_append];rw[QE ⇑EO];simp
section
theorem xK {U:Type} {M:Model} {x:U} {Q:PUnit->U->Prop} {st:U} (h:Q ⟨⟩ x):wpS M A E s (set x:StateT U Sem PUnit) Q st:=by
 unfold wpS;rw[StateT.run_set];exact Qf ⟨rfl,h⟩
theorem i6 (hL:iZ κ kd prog w A s) {st:SortSt} {a₀:Array Keyed} {u v:List (List Keyed)} {X Y rest:List Keyed} {Q:Bool->SortSt->Prop} (ha:∀p∈a₀.toList,Hk κ p) (I:RI κ kd a₀ st (u++X::Y::v) rest)
  (h:∀Z st',Z.length=X.length+Y.length->RI κ kd a₀ st' (u++Z::v) rest->Q true st'):wpS (model prog w) A E s (mergeAt' u.length) Q st:=by
 obtain⟨earr,perm,ok,pend,kind,fail⟩:=I;obtain⟨p1,p2,e1,e2,e3⟩:=x_ pend;obtain⟨xne,sx⟩:=ok X (by simp);obtain⟨yne,sy⟩:=ok Y (by simp);have xl:1<=X.length:=Nat.pos_of_ne_zero λz=>xne (Xm z);have yl:1<=Y.length:=Nat.pos_of_ne_zero λz=>yne (Xm z);have ha':∀p∈(arrOf st).toList,Hk κ p:=λp hp=>ha p ((Array.perm_iff_toList_perm.mp perm).mem_iff.mp hp);have earr:(arrOf st).toList=u.flatten++(X++(Y++(v.flatten++rest))):=by rw[earr];simp
 have sz:(arrOf st).size=u.flatten.length+(X.length+(Y.length+(v.flatten++rest).length)):=by rw[<-Qs,earr];simp only[Qk]
 have atX:∀i,i<X.length->(arrOf st)[u.flatten.length+i]?=X[i]?:=λi hi=>by rw[<-QA,earr,QK ⇑wn,XD,QO hi]
 have atY:∀i,i<Y.length->(arrOf st)[u.flatten.length+X.length+i]?=Y[i]?:=λi hi=>by rw[<-QA,earr,QK ⇑(EN xl sz),QK ⇑(EM xl sz),show u.flatten.length+X.length+i-u.flatten.length-X.length=i by exact EL,QO hi]
 obtain⟨y0,hy0⟩:∃y0,Y[0]?=some y0:={Y[0],by rw[Qc]};obtain⟨xz,hxz⟩:∃xz,X[X.length-1]?=some xz:={X[X.length-1],by rw[Qc]};have key0:(arrOf st)[u.flatten.length+X.length]?=-y0:=by have:=atY 0 ⇑(wm yl);rw[Nat.add_zero]at this;rw[this,hy0]
 have pwi:∀{L:List Keyed},L.Pairwise (le κ)->∀{i j:Nat} {p q:Keyed},i<=j->L[i]?=-p->L[j]?=-q->le κ p q:=λ{L} sl {i j p q} hij hi hj=>by
  by_cases e:i=j
  ·subst e;rw[hi]at hj;cases hj;exact XS _
  obtain⟨li,ei⟩:=Qe.mp hi;obtain⟨lj,ej⟩:=Qe.mp hj;have:=(List.pairwise_iff_getElem.mp sl) i j li lj ⇑(DS hij e);rwa [ei,ej]at this
 have leY:∀q∈Y,le κ y0 q:=λq hq=>by
  obtain⟨j,hj,ej⟩:=Qo.mp hq;exact pwi sy (QB j) hy0 (by rw[Qc hj,ej])
 have leX:∀p∈X,le κ p xz:=λp hp=>by
  obtain⟨j,hj,ej⟩:=Qo.mp hp;exact pwi sx (show j<=X.length-1 by exact EK xl sz hj) (by rw[Qc hj,ej]) hxz
 have same:∀st',arrOf st'=arrOf st->kindOf st'=kindOf st->failedOf st'=failedOf st->(pendingOf st').toList.map (λp=>(p.1,p.2.1))=fG 0 u++(u.flatten.length,X.length+Y.length)::fG (u.flatten.length+X.length+Y.length) v->(∀p∈X,∀q∈Y,le κ p q)->Q true st':=λst' h1 h2 h3 h4 h5=>by
  refine h (X++Y) st' (by simp) {by rw[h1,earr];simp,by rw[h1];exact perm,λr hr=>?_,?_,h2.trans kind,h3.trans fail}
  ·rcases Qq.mp hr with e|e
   ·exact ok r (by simp[e])
   rcases QP.mp e with e|e
   ·subst e;exact{by simp[xne],Xg.mpr ⟨sx,sy,h5⟩}
   exact ok r (by simp[e])
  rw[h4,io,Nat.zero_add];show _=_++(u.flatten.length,(X++Y).length)::fG (u.flatten.length+(X++Y).length) v;rw[Qk,Nat.add_assoc]
 unfold mergeAt';refine Qv (wpS_get ?_);show wpS _ _ _ _ (match ((pendingOf st)[u.length]?,(pendingOf st)[u.length+1]?) with|(some (sa,na,power),some (sb,nb,_))=>_|x=>_) _ _;rw[e1,e2];dsimp -zeta only;refine Qv (xK ?_);refine Qv (bg key0 ?_);have hk0:Hk κ y0:=ha' y0 (by rw[Array.mem_toList_iff];exact Array.mem_of_getElem? key0);refine Qv (gq (a:=arrOf st) (base:=u.flatten.length) (n:=X.length) (hint:=0) hL ⇑kind hk0 ha' ⇑(EJ yl sz) (λi j p q b1 b2 b3 c1 c2=>?_) ⇑(EI xl sz) λk k1 k2 k3=>?_)
 ·have f1:=atX (i-u.flatten.length) ⋯;have f2:=atX (j-u.flatten.length) ⋯;rw[show u.flatten.length+(i-u.flatten.length)=i by exact EH b1,c1]at f1;rw[show u.flatten.length+(j-u.flatten.length)=j by exact EG b1 b2,c2]at f2;exact pwi sx (show i-u.flatten.length<=j-u.flatten.length by exact EF b1 b2) f1.symm f2.symm
 dsimp -zeta only;have k2':∀i,i<k->∀p,X[i]?=-p->le κ p y0:=λi hi p e=>oJ (k2 i hi p (by rw[atX i ⇑(EE sz k1 hi)];exact e))
 have k3':∀i,k<=i->∀p,X[i]?=-p->le κ y0 p:=λi hi p e=>by
  have hl:=(Qe.mp e).1;exact oK (k3 i hi hl p (by rw[atX i hl];exact e))
 by_cases d1:X.length-k=0
 ·refine aW (bT d1) ?_;refine Qy (same _ rfl rfl rfl e3 λp hp q hq=>?_);obtain⟨j,hj,ej⟩:=Qo.mp hp;exact le_trans (k2' j ⋯ p (by rw[Qc hj,ej])) (leY q hq)
 refine aV (bF d1) ?_
 have keyz:(arrOf st)[u.flatten.length+k+(X.length-k)-1]?=-xz:=by
  rw[(DB (f:=u.flatten.length) k1).resolve_right (λz=>by rw[z]at xl;exact absurd xl (by decide)),atX _ ⇑(ED xl sz),hxz]
 refine Qv (bg keyz ?_);have hkz:Hk κ xz:=ha' xz (by rw[Array.mem_toList_iff];exact Array.mem_of_getElem? keyz);refine Qv (gq (a:=arrOf st) (base:=u.flatten.length+X.length) (n:=Y.length) (hint:=Y.length-1) hL ⇑kind hkz ha' ⇑(EC sz) (λi j p q b1 b2 b3 c1 c2=>?_) ⇑(uD yl) λm m1 m2 m3=>?_)
 ·have f1:=atY (i-(u.flatten.length+X.length)) ⋯;have f2:=atY (j-(u.flatten.length+X.length)) ⋯;rw[show u.flatten.length+X.length+(i-(u.flatten.length+X.length))=i by omega,c1]at f1;rw[show u.flatten.length+X.length+(j-(u.flatten.length+X.length))=j by omega,c2]at f2;exact pwi sy (show i-(u.flatten.length+X.length)<=j-(u.flatten.length+X.length) by omega) f1.symm f2.symm
 dsimp -zeta only;have m2':∀i,i<m->∀p,Y[i]?=-p->le κ p xz:=λi hi p e=>oH (m2 i hi p (by rw[atY i ⇑(Ab m1 hi)];exact e))
 have m3':∀i,m<=i->∀p,Y[i]?=-p->le κ xz p:=λi hi p e=>by
  have hl:=(Qe.mp e).1;exact oM (m3 i hi hl p (by rw[atY i hl];exact e))
 by_cases d2:m=0
 ·refine aW (bT d2) ?_;refine Qy (same _ rfl rfl rfl e3 λp hp q hq=>?_);obtain⟨j,hj,ej⟩:=Qo.mp hq;exact le_trans (leX p hp) (m3' j ⇑(EB d2) q (by rw[Qc hj,ej]))
 refine aV (bF d2) ?_
 extract_lets x y jp
 have ex:x.toList=X.drop k:=by
  show ((arrOf st).extract (u.flatten.length+k) (u.flatten.length+X.length)).toList=_;rw[show u.flatten.length+X.length=(u.flatten.length+k)+(X.length-k) by omega,jG,earr,<-List.drop_drop,List.drop_left,List.drop_append_of_le_length ⇑(A7 k1),List.take_append_of_le_length (by rw[Q5];exact om1),Qw (by rw[Q5];exact om1)]
 have ey:y.toList=Y.take m:=by
  show ((arrOf st).extract (u.flatten.length+X.length) (u.flatten.length+X.length+m)).toList=_;rw[jG,earr,<-List.drop_drop,List.drop_left,List.drop_left,List.take_append_of_le_length m1]
 have zx:x.size=X.length-k:=by rw[<-Qs,ex,Q5]
 have zy:y.size=m:=by rw[<-Qs,ey,Qt];omega
 have atx:∀{i p},x[i]?=-p->X[k+i]?=-p:=λ{i p} e=>by rw[<-QA,ex,XT]at e;exact e
 have aty:∀{i p},y[i]?=-p->Y[i]?=-p:=λ{i p} e=>by
  have hl:=(Q9.mp e).1;rw[<-QA,ey,List.getElem?_take,QF ⇑(Be zy hl)]at e;exact e
 have inX:∀p∈x.toList,∃i,k<=i/\X[i]?=-p:=λp hp=>by
  obtain⟨i,hi,ei⟩:=Qo.mp hp;exact{k+i,⇑wn,atx (by rw[<-QA,Qc hi,ei])}
 have inY:∀p∈y.toList,∃i,i<m/\Y[i]?=-p:=λp hp=>by
  obtain⟨i,hi,ei⟩:=Qo.mp hp;rw[Qs]at hi;exact{i,⇑(Be zy hi),aty (by rw[<-QA,Qc (by rw[Qs];exact hi),ei])}
 have mX:∀{p i},X[i]?=-p->p∈X:=λe=>Qg e
 have hx:∀p∈x.toList,Hk κ p:=λp hp=>by
  obtain⟨i,_,e⟩:=inX p hp;exact ha' p (by rw[earr];simp[Qg e])
 have hy:∀p∈y.toList,Hk κ p:=λp hp=>by
  obtain⟨i,_,e⟩:=inY p hp;exact ha' p (by rw[earr];simp[Qg e])
 have ssx:x.toList.Pairwise (le κ):=by rw[ex];exact sx.sublist (List.drop_sublist _ _)
 have ssy:y.toList.Pairwise (le κ):=by rw[ey];exact sy.sublist (List.take_sublist _ _)
 have first:∀p∈x.toList,∀q,y[0]?=-q->le κ q p:=λp hp q hq=>by
  obtain⟨i,hi,e⟩:=inX p hp;have:=aty hq;rw[hy0]at this;cases this;exact k3' i hi p e
 have last:∀q∈y.toList,∀p,x[x.size-1]?=-p->le κ q p:=λq hq p hp=>by
  obtain⟨i,hi,e⟩:=inY q hq;have:=atx hp;rw[DA k1 d1 zx,hxz]at this;cases this;exact m2' i hi q e
 refine ig (λz:Array Keyed=>jp z) (λz st'=>Gs (setPending st (((pendingOf st).setIfInBounds u.length (u.flatten.length,X.length+Y.length,p1)).eraseIdxIfInBounds (u.length+1))) st'/\Srt κ (x.toList++y.toList) z.toList) (λz st1 hz=>?_) (λJ=>?_)
 ·obtain⟨g,so⟩:=hz;refine Qv (wpS_modify ?_);refine Qv (wpS_get ?_);have f1:failedOf st1=none:=g.fail.trans fail;have lz:z.toList.length=(X.length-k)+m:=by rw[so.1.length_eq,Qk,Qs,Qs,zx,zy]
  have ar:(List.foldl (λa (x:Keyed × Nat)=>a.setIfInBounds (u.flatten.length+k+x.snd) x.fst) (arrOf st1) z.toList.zipIdx).toList=u.flatten++((X.take k++(z.toList++Y.drop m))++(v.flatten++rest)):=by
   rw[pW (u.flatten.length+k) z.toList 0 (arrOf st1) (u.flatten++X.take k) (X.drop k++Y.take m) (Y.drop m++(v.flatten++rest)) ?_ ?_ ?_]
   ·simp only[Xa]
   ·rw[show arrOf st1=arrOf st from g.arr,earr]
    conv=>lhs;rw[<-Q0 k X,<-Q0 m Y]
    simp only[Xa]
   ·rw[Qk,Qt];exact EA sz k1
   rw[lz,Qk,Q5,Qt];exact Ez m1 zy
  have pz:(X.take k++(z.toList++Y.drop m)).Perm (X++Y):=by
   conv=>rhs;rw[<-Q0 k X,<-Q0 m Y]
   rw[Xa];refine List.Perm.append_left _ ?_;rw[<-Xa];refine List.Perm.append_right _ ?_;rw[<-ex,<-ey];exact so.1
  have mz:∀p∈z.toList,(∃i,k<=i/\X[i]?=-p)\/∃i,i<m/\Y[i]?=-p:=λp hp=>by
   rcases Qq.mp (so.1.mem_iff.mp hp) with e|e
   ·exact .inl (inX p e)
   exact .inr (inY p e)
  have tk:∀p∈X.take k,∃i,i<k/\X[i]?=-p:=λp hp=>by
   obtain⟨i,hi,ei⟩:=Qo.mp hp;have:=Qc hi;rw[ei,List.getElem?_take]at this;rw[Qt]at hi;rw[QF ⋯]at this;exact{i,⋯,this}
  have dm:∀p∈Y.drop m,∃i,m<=i/\Y[i]?=-p:=λp hp=>by
   obtain⟨i,hi,ei⟩:=Qo.mp hp;have:=Qc hi;rw[ei,XT]at this;exact{m+i,⇑wn,this}
  have sz':(X.take k++(z.toList++Y.drop m)).Pairwise (le κ):=by
   refine Xg.mpr {sx.sublist (List.take_sublist _ _),Xg.mpr {so.2,sy.sublist (List.drop_sublist _ _),λp hp q hq=>?_},λp hp q hq=>?_}
   ·obtain⟨j,hj,ej⟩:=dm q hq;rcases mz p hp with⟨i,hi,ei⟩|⟨i,hi,ei⟩
    ·exact le_trans (leX p (mX ei)) (m3' j hj q ej)
    exact pwi sy ⇑(Ey zy hj hi) ei ej
   obtain⟨i,hi,ei⟩:=tk p hp;rcases Qq.mp hq with e|e
   ·rcases mz q e with⟨j,hj,ej⟩|⟨j,hj,ej⟩
    ·exact pwi sx ⇑(Ex hi hj) ei ej
    exact le_trans (k2' i hi p ei) (leY q (Qg ej))
   obtain⟨j,hj,ej⟩:=dm q e;exact le_trans (k2' i hi p ei) (leY q (Qg ej))
  have fin:∀st',arrOf st'=List.foldl (λa (x:Keyed × Nat)=>a.setIfInBounds (u.flatten.length+k+x.snd) x.fst) (arrOf st1) z.toList.zipIdx->kindOf st'=kindOf st1->failedOf st'=failedOf st1->pendingOf st'=pendingOf st1->Q true st':=λst' h1 h2 h3 h4=>by
   refine h (X.take k++(z.toList++Y.drop m)) st' (by rw[pz.length_eq,Qk]) {?_,?_,λr hr=>?_,?_,h2.trans (g.kind.trans kind),h3.trans f1}
   ·rw[h1,ar];simp
   ·refine Array.Perm.trans ?_ perm;rw[Array.perm_iff_toList_perm,h1,ar,earr];refine List.Perm.append_left _ ?_;rw[<-Xa X];exact List.Perm.append_right _ pz
   ·rcases Qq.mp hr with e|e
    ·exact ok r (by simp[e])
    rcases QP.mp e with e|e
    ·subst e;refine{λz0=>?_,sz'};have:=pz.length_eq;rw[z0,Qk]at this;simp at this;omega
    exact ok r (by simp[e])
   rw[h4,show pendingOf st1=_ from g.pend];rw[io,Nat.zero_add];show _=_++(u.flatten.length,(X.take k++(z.toList++Y.drop m)).length)::fG (u.flatten.length+(X.take k++(z.toList++Y.drop m)).length) v;rw[pz.length_eq,Qk,<-Nat.add_assoc];exact e3
  refine Qy ?_;show Q (failedOf st1).isNone (setArr st1 (List.foldl (λa (x:Keyed × Nat)=>a.setIfInBounds (u.flatten.length+k+x.snd) x.fst) (arrOf st1) z.toList.zipIdx));rw[show (failedOf st1).isNone=true by rw[f1];rfl];exact fin _ rfl rfl rfl rfl
 by_cases d3:X.length-k<=m
 ·refine aW d3 ?_;refine Qv (o8 hL ⇑kind hx hy ⋯ ⋯ {by simp,List.Pairwise.nil,ssx,ssy,λp hp=>(nomatch hp),λp hp=>(nomatch hp),λq hq l hl=>last q hq l ?_} first λr st' g so=>J r st' ⟨g,so⟩);rw[List.getLast?_eq_getElem?,QA,Qs]at hl;exact hl
 refine aV d3 ?_;exact Qv (o9 hL ⇑kind hx hy ⋯ ⋯ ssx ssy first last λr st' g so=>J r st' ⟨g,so⟩)
end
section
variable {xs a₀:Array Keyed}
theorem xO {lo n:Nat} (h:Up κ xs lo n) (hn:lo+n<=xs.size):((xs.toList.drop lo).take n).Pairwise (le κ):=by
 rw[List.pairwise_iff_getElem];intro i j hi hj hij;rw[Qt,Q5,Qs]at hi hj
 have at_:∀(m:Nat) (hm:m<((xs.toList.drop lo).take n).length),kv κ ((xs.toList.drop lo).take n)[m]=KK κ xs (lo+m):=λm hm=>by
  have e:=Qc hm;rw[Qt,Q5,Qs]at hm;rw[List.getElem?_take,QF ⇑(Aa hm),XT,QA]at e;exact(wS e).symm
 unfold le;rw[at_,at_];exact h i j ⇑(wu hij) ⇑(Aa hj)
variable {rs:List (List Keyed)} {st st2:SortSt}
theorem p_ {rest:List Keyed} (I:RI κ kd a₀ st rs rest):(pendingOf st).size=rs.length:=by
 have:=congrArg List.length I.pend;rwa [Qa,qm,Qs]at this
theorem vH {rs:List (List Keyed)} {i:Nat} (h:i+1<rs.length):∃u X Y v,rs=u++X::Y::v/\u.length=i:=by
 refine{rs.take i,rs[i],rs[i+1],rs.drop (i+2),?_,by rw[Qt];exact Ew h};rw[<-List.drop_eq_getElem_cons,<-List.drop_eq_getElem_cons,Q0]
theorem RI.seg {rest:List Keyed} (I:RI κ kd a₀ st rs rest) (g:Sg rs.flatten.length st st2):RI κ kd a₀ st2 rs ((arrOf st2).toList.drop rs.flatten.length):=by
 refine{?_,g.perm.trans I.perm,I.ok,by rw[g.pend];exact I.pend,g.kind.trans I.kind,g.fail.trans I.fail}
 have:(arrOf st2).toList.take rs.flatten.length=rs.flatten:=by
  refine List.ext_getElem? λi=>?_;rw[List.getElem?_take]
  split
  ·rename_i hi
   rw[QA,g.head i hi,<-QA,I.arr,QO hi]
  rename_i hi
  rw[Xd ⇑(om2 hi)]
 conv=>lhs;rw[<-Q0 rs.flatten.length (arrOf st2).toList]
 rw[this]
variable {ps:Array (Nat × Nat × Nat)}
theorem RI.power {rest:List Keyed} (I:RI κ kd a₀ st rs rest) (h:ps.toList.map (λp=>(p.1,p.2.1))=(pendingOf st).toList.map (λp=>(p.1,p.2.1))):RI κ kd a₀ (setPending st ps) rs rest :=
 {I.arr,I.perm,I.ok,h.trans I.pend,I.kind,I.fail}
theorem rN {i pw:Nat}:(ps.modify i λx=>match x with|(st,len,_)=>(st,len,pw)).toList.map (λp=>(p.1,p.2.1))=ps.toList.map (λp=>(p.1,p.2.1)):=by
 refine List.ext_getElem? λj=>?_;rw[Qi,Qi,QA,QA,Array.getElem?_modify]
 split
 ·cases ps[j]? with
  | none=>rfl
  | some p=>rfl
 rfl
theorem vj (hL:iZ κ kd prog w A s) {st:SortSt} {a₀:Array Keyed} {Q:Unit->SortSt->Prop} (ha:∀p∈a₀.toList,Hk κ p) (I:RI κ kd a₀ st [] a₀.toList)
  (h:∀st',(arrOf st').Perm a₀->failedOf st'=none->(arrOf st').toList.Pairwise (le κ)->Q () st'):wpS (model prog w) A E s sortRuns' Q st:=by
 have ha2:∀{st:SortSt} {rs:List (List Keyed)} {rest:List Keyed},RI κ kd a₀ st rs rest->∀p∈(arrOf st).toList,Hk κ p:=λI p hp=>ha p ((Array.perm_iff_toList_perm.mp I.perm).mem_iff.mp hp)
 have sz:∀{st:SortSt} {rs:List (List Keyed)} {rest:List Keyed},RI κ kd a₀ st rs rest->(arrOf st).size=a₀.size/\a₀.size=rs.flatten.length+rest.length:=λI=>by
  have:=I.perm.size_eq;refine{this,?_};rw[<-this,<-Qs,I.arr,Qk]
 unfold sortRuns';refine Qv (wpS_get ?_)
 extract_lets szv mr lo0
 have ez:szv=a₀.size:=(sz I).1
 clear_value szv mr
 subst ez;refine Qv (wpS_mono (Xz (I:=λx c st'=>∃rs rest,c=(none,rs.flatten.length)/\RI κ kd a₀ st' rs rest/\(x<=rs.flatten.length\/rest=[])) (Q:=λc st'=>∃rs lo,c=(none,lo)/\RI κ kd a₀ st' rs []) ?step ?fin {[],_,rfl,I,.inl (QB _)}) ?post)
 case fin =>
  rintro c st' ⟨rs,rest,rfl,J,o⟩;have:=(sz J).2
  have e:rest=[]:=by
   rcases o with o|o
   ·exact Xm ⇑(Ev this o)
   exact o
  subst e;exact⟨rs,_,rfl,J⟩
 case step =>
  rintro x c st' _ hx ⟨rs,rest,rfl,J,o⟩;have zz:=(sz J).2;have zs:=(sz J).1;generalize hlo:rs.flatten.length=lo at *;by_cases c1:lo>=a₀.size
  ·show wpS _ _ _ _ (if lo>=a₀.size then _ else _) _ _;refine aW c1 ?_;have e:rest=[]:=Xm ⇑(Eu zs zz c1);subst e;exact Qy ⟨rs,_,rfl,J⟩
  show wpS _ _ _ _ (if lo>=a₀.size then _ else _) _ _;refine aV c1 ?_
  have xlo:x<=lo:=by
   rcases o with o|o
   ·exact o
   subst o;simp at zz;exact Et zs c1 zz
  refine Qv (ub (lo:=lo) (nrem:=a₀.size-lo) hL J.kind (ha2 J) ⇑(Es zs zz c1) ⇑(Er zs zz c1) λm st1 g1 m1 m2 up=>?_);dsimp -zeta only
  extract_lets n jp
  refine ig (λz:Nat=>jp () z) (λz st2=>Sg lo st' st2/\1<=z/\lo+z<=a₀.size/\Up κ (arrOf st2) lo z) (λn st2 hz=>?_) (λJJ=>?_)
  ·obtain⟨g2,n1,n2,up2⟩:=hz;have J2:=J.seg (by rw[hlo];exact g2);rw[hlo]at J2;have z2:=(sz J2).2;have up3:=xO up2 (by rw[(sz J2).1];exact n2);generalize hr2:(arrOf st2).toList.drop lo=rest2 at J2 up3 z2;rw[hlo]at z2;refine Qv (wpS_get ?_)
   extract_lets ln jp2
   refine ig (λ_:Unit=>jp2 ()) (λ_ st3=>∃rs3,RI κ kd a₀ st3 rs3 rest2/\rs3.flatten.length=lo) (λ_ st3 hz=>?_) (λJP=>?_)
   ·obtain⟨rs3,J3,l3⟩:=hz;refine Qv (wpS_modify ?_);refine Qy {rs3++[rest2.take n],rest2.drop n,?_,{?_,J3.perm,λr hr=>?_,?_,J3.kind,J3.fail},.inl ?_}
    ·have:(rs3++[rest2.take n]).flatten.length=lo+n:=by rw[List.flatten_append,Qk,l3];simp;omega
     rw[this]
    ·rw[List.flatten_append];show (arrOf st3).toList=_;rw[J3.arr];simp
    ·rcases Qq.mp hr with e|e
     ·exact J3.ok r e
     have e:r=rest2.take n:=by simpa using e
     subst e;refine{λz0=>?_,up3};have:=congrArg List.length z0;rw[Qt,List.length_nil]at this;omega
    ·show ((pendingOf st3).push (lo,n,0)).toList.map _=_;rw[Array.toList_push,Qp,J3.pend,io,Nat.zero_add,l3];show _=_++[(lo,(rest2.take n).length)];rw[Qt,show min n rest2.length=n by omega];rfl
    have:(rs3++[rest2.take n]).flatten.length=lo+n:=by rw[List.flatten_append,Qk,l3];simp;omega
    exact Ep xlo n1 l3 this
   cases hb:(pendingOf st2).back? with
   | none=>exact JP () st2 ⟨rs,J2,hlo⟩
   | some p =>
   obtain⟨s1,l1,pw1⟩:=p;dsimp -zeta only
   extract_lets pw
   refine Qv (wpS_mono (Xz (I:=λ_ c st3=>c=(none,())/\∃rs3,RI κ kd a₀ st3 rs3 rest2/\rs3.flatten.length=lo) (Q:=λc st3=>c=(none,())/\∃rs3,RI κ kd a₀ st3 rs3 rest2/\rs3.flatten.length=lo) ?_ (λ_ _ z=>z) ⟨rfl,rs,J2,hlo⟩) ?_)
   ·rintro y c st3 _ _ ⟨rfl,rs3,J3,l3⟩;have pl:=p_ J3;refine Qv (wpS_get ?_);show wpS _ _ _ _ (match (if (pendingOf st3).size>1 then (pendingOf st3)[(pendingOf st3).size-2]? else none) with|some (_,_,older)=>_|x=>_) _ _;by_cases c2:(pendingOf st3).size>1
    ·rw[QF c2];obtain⟨q,hq⟩:∃q,(pendingOf st3)[(pendingOf st3).size-2]?=some q:={(pendingOf st3)[(pendingOf st3).size-2],by rw[Q7]};rw[hq];obtain⟨q1,q2,older⟩:=q;dsimp -zeta only;by_cases c3:older<=pw
     ·refine aW c3 ?_;exact Qy ⟨rfl,rs3,J3,l3⟩
     refine aV c3 ?_;obtain⟨u,X,Y,v,rfl,ul⟩:=vH (rs:=rs3) (i:=(pendingOf st3).size-2) ⇑(Eo pl c2);rw[<-ul];refine Qv (i6 hL ha J3 λZ st4 lz J4=>?_);refine aV Qn ?_;refine Qy {rfl,_,J4,?_};rw[<-l3];simp;exact En lz
    rw[QE c2];exact Qy ⟨rfl,rs3,J3,l3⟩
   rintro c st3 ⟨rfl,rs3,J3,l3⟩;refine Qv (wpS_modify ?_);exact JP () _ {rs3,J3.power rN,l3}
  have z1:=g1.size;by_cases c2:n<mr
  ·refine aW c2 ?_;refine Qv (wpS_lift (XU {rfl,?_}));have en:n=m:=rfl;refine Qv (xL (lo:=lo) (n:=min (a₀.size-lo) mr) (ok:=m) hL (g1.kind.trans J.kind) (g1.keys (ha2 J)) ⋯ ⋯ up λst2 g2 up2=>?_);refine aV Qn ?_;exact JJ _ st2 {g1.trans g2,⋯,⋯,up2}
  refine aV c2 ?_;exact JJ m st1 {g1,m1,⋯,up}
 case post =>
  rintro c st1 ⟨rs,lo,rfl,J⟩;have zz:=(sz J).2
  have short:∀(rs:List (List Keyed)),(∀r∈rs,r≠[]/\r.Pairwise (le κ))->rs.length<=rs.flatten.length:=λrs=>by
   induction rs with
   | nil=>intro _;simp
   | cons r rs ih =>
   intro hr;have h1:=(hr r (by simp)).1;have h2:=ih λr' h'=>hr r' (by simp[h']);have:r.length≠0:=λe=>h1 (Xm e);rw[List.flatten_cons,Qk,QT];exact Em h2 this
  have len0:=short rs J.ok;simp only[List.length_nil,Nat.add_zero]at zz;refine Qv (wpS_mono (Xz (I:=λx c st'=>c=(none,())/\∃rs,RI κ kd a₀ st' rs []/\rs.length+x<=a₀.size+1) (Q:=λc st'=>c=(none,())/\∃rs,RI κ kd a₀ st' rs []/\rs.length<=1) ?_ ?_ {rfl,rs,J,⇑(El zz len0)}) ?_)
  ·rintro x c st' _ hx ⟨rfl,rs,J,l⟩;have pl:=p_ J;refine Qv (wpS_get ?_);show wpS _ _ _ _ (if (pendingOf st').size<=1 then _ else _) _ _;by_cases c2:(pendingOf st').size<=1
   ·refine aW c2 ?_;exact Qy {rfl,rs,J,⇑(Ek pl c2)}
   refine aV c2 ?_
   extract_lets i bf j
   have hj:j+1<rs.length:=by
    have h1:j=i-1\/j=i:=by
     show (if _ then i-1 else i)=i-1\/(if _ then i-1 else i)=i
     split
     ·exact .inl rfl
     exact .inr rfl
    exact Dy h1 c2 pl
   obtain⟨u,X,Y,v,rfl,ul⟩:=vH hj
   clear_value j
   subst ul;refine Qv (i6 hL ha J λZ st4 lz J4=>?_);refine aV Qn ?_;refine Qy {rfl,_,J4,?_};simp only[Qk,QT]at l ⊢;omega
  ·rintro c st' ⟨rfl,rs,J,l⟩;exact{rfl,rs,J,⇑(Ej zz l)}
  rintro c st' ⟨rfl,rs,J,l⟩;refine Qy (h st' J.perm J.fail ?_);rw[J.arr,List.append_nil]
  match rs,l,J.ok with
  | [],_,_=>exact List.Pairwise.nil
  | [r],_,ok=>simpa using(ok r (by simp)).2
end
end Tm
namespace Tm
open PySem PySem.Spec PyProof.Rows
def leV (κ:PyProof.Rows.KeyKind) (u v:Value):Prop:=le κ (u,u) (v,v)
theorem o0 {vs:List Value} {p:Keyed} (h:p∈vs.zip vs):p.1=p.2/\p.1∈vs:=by
 obtain⟨i,hi,e⟩:=Qo.mp h;rw[List.getElem_zip]at e;subst e;exact{rfl,Xo _}
theorem v_ {κ:PyProof.Rows.KeyKind} {vs:List Value} {xs:Array Keyed} (hp:xs.Perm (pairsOf vs)) (hs:xs.toList.Pairwise (le κ)):((xs.map (·.2)).toList).Perm vs/\((xs.map (·.2)).toList).Pairwise (leV κ):=by
 have hl:xs.toList.Perm (vs.zip vs):=by rw[<-pairsOf_toList];exact Array.perm_iff_toList_perm.mp hp
 have self:∀p∈xs.toList,p.1=p.2:=λp h=>(o0 (hl.mem_iff.mp h)).1
 have e:vs=(vs.zip vs).map (·.2):=by
  rw[List.map_snd_zip];exact Qh _
 refine{?_,?_}
 ·rw[Array.toList_map]
  conv=>rhs;rw[e]
  exact hl.map _
 rw[Array.toList_map,XN];refine hs.imp_of_mem λ{a b} ha hb h=>?_;have h1:=self a ha;have h2:=self b hb;unfold leV le kv at *;rw[<-h1,<-h2];exact h
section
variable {prog:Program} {w:World} {A:Around} {E:J0} {s:Shared}
structure Can (prog:Program) (w:World) (κ:PyProof.Rows.KeyKind) (kd:SortKind) (h:Heap) (a:Addr) (vs:List Value):Prop where
 key:∀v∈vs,∃x,κ.keyOf v=-x
 lt:∀(A:Around) (s:Shared),(∀b o,b≠a->h.get? b=-o->s.heap.get? b=-o)->iZ κ kd prog w A s
 kind:2<=vs.length->∀(A:Around) (E:J0) (s:Shared) (Q:SortKind->Shared->Prop),(∀b o,b≠a->h.get? b=-o->s.heap.get? b=-o)->Q kd s->wpAny (model prog w) A (keyKind' vs.toArray) Q E s
variable {vs:List Value} {a b d:Addr}
theorem kN {κ:PyProof.Rows.KeyKind} {kd:SortKind} {n:Nat} {P:Fin->Shared->Prop} (ho:s.heap.get? a=-seqObj "list" vs.toArray n) (c:Can prog w κ kd s.heap a vs) (hn:vs.length<=100000)
  (h:∀out:Array Value,out.toList.Perm vs->out.toList.Pairwise (leV κ)->P (.done (.ret .none)) { s with heap:=sortedHeap s.heap a vs out }):wpAny (model prog w) A (Builtin.«list.sort» {[.ref a],[]}) P E s:=by
 rw[list_sort_plain];have ha:a<s.heap.objs.size:=Qm ho;refine Qb (listItems_at ho rfl (Qb (listUpdate_at ho rfl ?_)));obtain⟨e1,ho1⟩:∃e1,(s.heap.update a (Obj.mapSeq λ_=>#[])).get? a=some (seqObj "list" #[] e1):={_,get?_update_seq ho (λ_=>#[])};refine Qb (seqEpoch_at ho1 rfl (Qb (wpAny_newTuple (Qb (wpAny_newList (Q3 ?_))) (by rw[XC];show vs.length<=_;exact z_ hn))))
 have keep:∀b o,b≠a->s.heap.get? b=-o->(((s.heap.update a (Obj.mapSeq λ_=>#[])).push (seqObj "tuple" vs.toArray 0)).push (seqObj "list" #[] 0)).get? b=-o:=λb o hb e =>
  Qd _ (Qd _ ((Q4 _ _ (XJ hb)).trans e))
 have ho6:(((s.heap.update a (Obj.mapSeq λ_=>#[])).push (seqObj "tuple" vs.toArray 0)).push (seqObj "list" #[] 0)).get? a=-(seqObj "list" #[] e1):=Qd _ (Qd _ ho1);show wpAny (model prog w) A _ P E { s with heap:=((s.heap.update a (Obj.mapSeq λ_=>#[])).push (seqObj "tuple" vs.toArray 0)).push (seqObj "list" #[] 0) };dsimp only;have zs:vs.toArray.size=vs.length:=by simp
 by_cases c2:vs.toArray.size<2
 ·rw[QF c2,QF c2];refine Qb (Qf ?_);rw[StateT.run_pure];refine Qb (Qf (Qb (seqEpoch_at ho6 rfl (Qb (listUpdate_at ho6 rfl ?_ (hsz2:=by rw[Array.size_map];show (pairsOf vs).size<=_;rw[pairsOf_size,XC];exact Ei hn zs c2))))));simp only[bne_self_eq_false,QW,if_false]
  have sh:(pairsOf vs).toList.Pairwise (le κ):=by
   rw[pairsOf_toList]
   match vs,zs,c2 with
   | [],_,_=>exact List.Pairwise.nil
   | [v],_,_=>exact List.pairwise_singleton _ _
   | v::u::r,zs,c2=>exact absurd c2 (by simp)
  obtain⟨p1,p2⟩:=v_ (Array.Perm.refl _) sh;exact Qf (h _ p1 p2)
 rw[QE c2,QE c2];refine Qb (c.kind ⇑(Eh hn zs c2) _ _ _ _ keep ?_)
 refine Qb (Xr (vj (κ:=κ) (kd:=kd) (a₀:=pairsOf vs) (st:=SortSt.mk' kd (vs.toArray.zip vs.toArray) #[] 7 none) (Q:=λ_ st'=>(arrOf st').Perm (pairsOf vs)/\failedOf st'=none/\(arrOf st').toList.Pairwise (le κ))
  (c.lt _ _ keep) (λp hp=>?_) {rfl,Array.Perm.refl _,λr hr=>(nomatch hr),rfl,rfl,rfl} λst' a1 a2 a3=>⟨a1,a2,a3⟩) ?_ λ_ _ e=>e)
 ·rw[pairsOf_toList]at hp;exact c.key _ (o0 hp).2
 rintro⟨⟨⟩,st'⟩ s' ⟨rfl,hp,hf,hs⟩;dsimp only;refine Qb (seqEpoch_at ho6 rfl (Qb (listUpdate_at ho6 rfl ?_ (hsz2:=by refine QY (Nat.le_of_eq ((Array.size_map ..).trans (hp.size_eq.trans (pairsOf_size _)))) ?_;rw[XC];exact Eg hn zs c2))));rw[hf];simp only[bne_self_eq_false,QW,if_false];obtain⟨p1,p2⟩:=v_ hp hs;exact Qf (h _ p1 p2)
theorem fV {h:Heap} {out:Array Value} {o:Obj} (hb:b≠a) (e:h.get? b=-o):(sortedHeap h a vs out).get? b=-o:=by
 unfold sortedHeap;exact(Q4 _ _ (XJ hb)).trans (Qd _ (Qd _ ((Q4 _ _ (XJ hb)).trans e)))
theorem gE {h:Heap} {vs:List Value} {out:Array Value} {n:Nat} (e:h.get? a=-seqObj "list" vs.toArray n):∃m,(sortedHeap h a vs out).get? a=-seqObj "list" out m:=by
 unfold sortedHeap;exact{_,get?_update_seq (Qd _ (Qd _ (get?_update_seq e (λ_=>#[])))) (λ_=>out)}
theorem gu {κ:Heap->PyProof.Rows.KeyKind} {kd:SortKind} {r:Value} {Q:J0} {G:Heap->List Value->Prop}
  (col:∀(A:Around) (E:J0) (R:List Value->Shared->Prop),A.handled=none->(∀h' tk vs,(∀b o,s.heap.get? b=-o->h'.get? b=-o)->s.heap.objs.size<=h'.objs.size->G h' vs->R vs { s with heap:=h',toks:=tk })->wpAny (model prog w) A (collect r) R E s)
  (hh:A.handled=none) (can:∀h' vs D,(∀b o,s.heap.get? b=-o->h'.get? b=-o)->G h' vs->D=h'.objs.size->vs.length<=100000/\Can prog w (κ h') kd (h'.push (seqObj "list" vs.toArray 0)) D vs)
  (h:∀D h' tk vs h1 (out:Array Value) m,(∀b o,s.heap.get? b=-o->h1.get? b=-o)->G h1 vs->(∀b o,h1.get? b=-o->h'.get? b=-o)->s.heap.objs.size<=D->h1.objs.size<=D->h'.get? D=-seqObj "list" out m->out.toList.Perm vs->out.toList.Pairwise (leV (κ h1))->Q (.ref D) { s with heap:=h',toks:=tk }) :
  wpAny (model prog w) A (call (.builtin "sorted") [r]) Q E s:=by
 refine Calls.call_function_entry kind_sorted plain_sorted entry_sorted (args_sorted1 _) ?_;unfold Builtin.«sorted»;refine Qb (m:=checkCount "sorted" 1 1 _) (Qf ?_);refine Qb (col A.in1 E _ hh λh1 tk vs k1 z1 g1=>?_);obtain⟨len,_⟩:=can h1 vs h1.objs.size k1 g1 rfl;refine Qb (wpAny_newList ?_ (by rw[XC];exact z_ len));obtain⟨_,cn⟩:=can h1 vs h1.objs.size k1 g1 rfl;have hoL:(h1.push (seqObj "list" vs.toArray 0)).get? h1.objs.size=-seqObj "list" vs.toArray 0:=Qr _ rfl;refine Qb (Q3 (XH (s:={ s with heap:=h1.push (seqObj "list" vs.toArray 0),toks:=tk }) slot_list_sort ⟨_,hoL,rfl⟩ entry_list_sort (kN hoL cn len λout p1 p2=>{_,rfl,?_}) (args_list_sort _)));obtain⟨m,at'⟩:=gE (vs:=vs) (out:=out) hoL;exact Qf {_,rfl,h _ _ _ vs h1 out m k1 g1 (λb o e=>fV (Qz (Qm e)) (Qd _ e)) z1 (Qh _) at' p1 p2}
theorem xw {T:String} {r:Addr} {n:Nat} {P:Nat->Value->Prop} {OK:Heap->Prop} {R:List Value->Shared->Prop} (K:PySem.W.KdlSrc prog w T r d n P OK) (hh:A.handled=none) (ok:OK s.heap) (hn:n<=sizeLine)
  (h:∀(g:Heap) (tk:Nat) (acc:Array Value),(∀b o,s.heap.get? b=-o->g.get? b=-o)->s.heap.objs.size<=g.objs.size->PySem.ItemsOf P acc n->R acc.toList { s with heap:=g,toks:=tk }):wpAny (model prog w) A (collect (.ref r)) R E s:=by
 obtain⟨l1,l2⟩:=K.there _ ok;unfold collect;refine Qb (wpAny_runValue (Xu entry_proto_collect' ?_));rw[Xh PySem.F.plain_proto_collect _];refine Qb (wpAny_newObj_type (Qf {plainId_quiet PySem.F.plain_list_iadd _,Xu entry_list_iadd' ?_}));rw[Xh PySem.F.plain_list_iadd _]
 refine Xr (PySem.W.kdl_extend (A:=A) (s:={ s with heap:=s.heap.push { cls:=.type "list", data:=.seq ([]:List Value).toArray } }) (R:=λq s'=>∃(g:Heap) (tk:Nat) (acc:Array Value) (c:Nat),q=.ok (.ret (.ref s.heap.objs.size))/\s'={ s with heap:=g,toks:=tk } /\
   (∀b o,s.heap.get? b=-o->g.get? b=-o)/\g.get? s.heap.objs.size=some { cls:=.type "list", dict:=none,data:=.seq acc c,slots:=#[] }/\PySem.ItemsOf P acc n)
  K hh (K.keep _ _ ok λb _ o e=>Qd _ e) s.heap.objs.size (XG l1) (XG l2) (.ref s.heap.objs.size) 0 (Qr _ rfl)
  (λg tk acc c k at' it=>{g,tk,acc,c,rfl,rfl,λb o e=>k b o (Qz (Qm e)) (Qd _ e),at',it}) hn) (λfn s' x=>?_) λe s' x=>?_
 ·cases fn with
  | done f =>
   obtain⟨g,tk,acc,c,e,rfl,k,at',it⟩:=x;cases e;exact Qb (wpAny_load at' (Qf (h g tk acc k (Xx (Qm at')) it)))
  | again c1 =>
   refine{x.1,codeAny_mono x.2 λq s2 y=>?_};obtain⟨g,tk,acc,c,rfl,rfl,k,at',it⟩:=y;exact Qb (wpAny_load at' (Qf (h g tk acc k (Xx (Qm at')) it)))
 obtain⟨_,_,_,_,z,_⟩:=x;cases z
theorem lm {h:Heap} {ss:List Str} (hS:StrsAre vs ss):Can prog w PyProof.Rows.strKind oneType' h a vs where
 key v hv:=by
  obtain⟨x,t,e⟩:=hS.all v hv;exact{x.cps.toList,by rw[e]}
 lt A s _:=λE x y a b Q ha hb hq=>by rw[keyLt'_oneType];exact strKind_oneLt prog w A E s x y a b ha hb hq
 kind h2 A E s Q _ hq:=by
  match vs,hS,h2 with
  | v₁::v₂::rest,hS,_=>rw[keyKind_strs hS];exact Qf hq
end
end Tm
set_option maxHeartbeats 4000000
namespace L2
open PySem PySem.Spec PyProof.Rows
def Fz:HO->Prop
 | .dK _=>True
 | .dT _=>True
 | .lst _=>True
 | _=>False
def back (H:Hp) (a:Addr) (H':Hp):Hp:=λb=>if b=a then H a else H' b
variable {a b:Addr} {H H':Hp}
theorem gB:back H a H' a=H a:=QF rfl
theorem b8 (h:b≠a):back H a H' b=H' b:=QE h
section
variable {X:Cx} {pins:J5} {U σ':St} {H H':Hp} {s s':Shared} {a:Addr} {u:HO} {o:Obj}
theorem jy (r:Rd H a u):∃v,H a=-v:=by
 rcases r with r|⟨o,r⟩ <;> exact⟨_,r⟩
theorem zo (r:Rd H a u) (f:Fz u):(∀xs,H a≠-.tup xs)/\(∀ps,H a≠-.tbl ps)/\(∀x,H a≠-.own x)/\∀ob v,H a=-.frz ob v->v=u:=by
 rcases r with r|⟨o,r⟩
 ·refine{λxs z=>?_,λps z=>?_,λx z=>?_,λob v z=>?_} <;> (rw[r]at z;cases z;exact f.elim)
 refine{λxs z=>?_,λps z=>?_,λx z=>?_,λob v z=>?_} <;> (rw[r]at z;cases z);rfl
theorem Inv.freeze (I:Inv X pins U H s) (r:Rd H a u) (f:Fz u) (e:s.heap.get? a=-o):Inv X pins U (upd H a (.frz o u)) s:=by
 obtain⟨v,hv⟩:=jy r;obtain⟨n1,n2,n3,n4⟩:=zo r f;have ne:∀{b},H b=none->b≠a:=λh z=>by rw[z,hv]at h;cases h
 have ok:=r.ok I.hok;refine{I.ok,I.os,I.bare,{I.base.keep,I.base.slot,λb ob q n hx=>?_,I.base.there,λb xs q=>?_,λb ob w q=>?_,λb ps q=>?_},I.loc,I.cell,?_,λx c h=>?_,λp hp=>?_,λb w q=>?_,I.len}
 ·have:=I.base.free b ob q n hx;rw[am (ne this)];exact this
 ·have:=I.base.tups b xs q;rw[am (λz=>n1 xs (by rw[<-z];exact this))];exact this
 ·have z:=I.base.frzs b ob w q;by_cases hb:b=a
  ·subst hb;have ew:=n4 ob w z;subst ew;obtain⟨e1,_⟩:=I.hok b _ z;rw[e]at e1;cases e1;exact ae
  rw[am hb];exact z
 ·obtain⟨more,z⟩:=I.base.tbls b ps q;exact{more,by rw[am (λy=>n2 _ (by rw[<-y];exact z))];exact z}
 ·rw[am (ne I.free)];exact I.free
 ·rw[am (ne (I.freeC x c h))];exact I.freeC x c h
 ·obtain⟨p1,p2,p3,p4,p5⟩:=I.pin p hp;exact{p1,by rw[am (ne p2)];exact p2,p3,p4,p5}
 have st:∀{b w},bG X.prog X.w H s.heap b w->bG X.prog X.w (upd H a (.frz o u)) s.heap b w:=λh=>h.stay (λ_ _ _ q=>q) (λd q=>by rw[am (λz=>n3 _ (by rw[<-z];exact q))];exact q) λd xs q=>by rw[am (λz=>n1 _ (by rw[<-z];exact q))];exact q
 by_cases hb:b=a
 ·subst hb;rw[ae]at q;cases q;exact{e,st ok}
 rw[am hb]at q;exact st (I.hok b w q)
theorem Inv.thaw (I:Inv X pins U H s) (r:Rd H a u) (f:Fz u) (e:s.heap.get? a=-o) (J:Inv X pins σ' H' s') (h':H' a=-.frz o u):Inv X pins σ' (back H a H') s':=by
 obtain⟨v,hv⟩:=jy r;obtain⟨n1,n2,n3,n4⟩:=zo r f;have ne:∀{b},H' b=none->b≠a:=λh z=>by rw[z,h']at h;cases h
 have ok:=J.hok a _ h';refine{J.ok,J.os,J.bare,{J.base.keep,J.base.slot,λb ob q n hx=>?_,J.base.there,λb xs q=>?_,λb ob w q=>?_,λb ps q=>?_},J.loc,J.cell,?_,λx c h=>?_,λp hp=>?_,λb w q=>?_,J.len}
 ·have:=J.base.free b ob q n hx;rw[b8 (ne this)];exact this
 ·have:=J.base.tups b xs q;rw[b8 (λz=>by rw[z,h']at this;cases this)];exact this
 ·by_cases hb:b=a
  ·subst hb;rw[gB];exact I.base.frzs b ob w q
  rw[b8 hb];exact J.base.frzs b ob w q
 ·obtain⟨more,z⟩:=J.base.tbls b ps q;exact{more,by rw[b8 (λy=>by rw[y,h']at z;cases z)];exact z}
 ·rw[b8 (ne J.free)];exact J.free
 ·rw[b8 (ne (J.freeC x c h))];exact J.freeC x c h
 ·obtain⟨p1,p2,p3,p4,p5⟩:=J.pin p hp;exact{p1,by rw[b8 (ne p2)];exact p2,p3,p4,p5}
 have st:∀{b w},bG X.prog X.w H' s'.heap b w->bG X.prog X.w (back H a H') s'.heap b w:=λh=>h.stay (λ_ _ _ q=>q) (λd q=>by rw[b8 (λz=>by rw[z,h']at q;cases q)];exact q) λd xs q=>by rw[b8 (λz=>by rw[z,h']at q;cases q)];exact q
 by_cases hb:b=a
 ·subst hb;rw[gB]at q;rcases r with r|⟨o2,r⟩
  ·rw[r]at q;cases q;exact st ok.2
  obtain⟨e2,_⟩:=I.hok b _ r;rw[e]at e2;cases e2;rw[r]at q;cases q;exact{ok.1,st ok.2}
 rw[b8 hb]at q;exact st (J.hok b w q)
noncomputable def yY (D:Ends) (H:Hp) (a:Addr) (o:Obj) (u:HO):Ends where
 nx:=λσ' H'=>H' a=-.frz o u/\D.nx σ' (back H a H')
 bk:=λσ' H'=>H' a=-.frz o u/\D.bk σ' (back H a H')
 ct:=λσ' H'=>H' a=-.frz o u/\D.ct σ' (back H a H')
 rt:=λv H'=>H' a=-.frz o u/\D.rt v (back H a H')
def BQ (t:TS):TS:=λD U H=>∃a u,Rd H a u/\Fz u/\∀o,t (yY D H a o u) U (upd H a (.frz o u))
theorem n8 {st:Stmt} {t:TS} (h:PS X st t):PS X st (BQ t):=by
 intro pins s U H D I q;obtain⟨a,u,r,f,q⟩:=q;obtain⟨v,hv⟩:=jy r
 obtain⟨o,e⟩:∃o,s.heap.get? a=some o:=by
  rcases r with r|⟨o,r⟩
  ·have:=(I.hok a _ r)
   cases u with
   | lst xs=>obtain⟨_,_,_,_,e⟩:=this;exact⟨_,e⟩
   | dK kvs=>obtain⟨_,_,_,_,o,_,_,e,_⟩:=this;exact⟨_,e⟩
   | dT kvs=>obtain⟨_,_,_,_,o,_,_,e,_⟩:=this;exact⟨_,e⟩
   | _=>exact f.elim
  exact{o,(I.hok a _ r).1}
 refine Xr (h pins s U _ _ (I.freeze r f e) (q o)) (λfl s' z=>?_) λ_ _ z=>z
 cases fl with
 | next=>obtain⟨σ',H',J,h1,h2⟩:=z;exact{σ',_,I.thaw r f e J h1,h2}
 | brk=>obtain⟨σ',H',J,h1,h2⟩:=z;exact{σ',_,I.thaw r f e J h1,h2}
 | cont=>obtain⟨σ',H',J,h1,h2⟩:=z;exact{σ',_,I.thaw r f e J h1,h2}
 | ret w=>obtain⟨v,σ',H',J,rv,h1,h2⟩:=z;exact{v,σ',_,I.thaw r f e J h1,rv,h2}
def zc (t:TE):TE:=λU H Q=>∃a u,Rd H a u/\Fz u/\∀o,t U (upd H a (.frz o u)) λv H'=>H' a=-.frz o u/\Q v (back H a H')
theorem rp {ex:Expr} {t:TE} (h:PE X ex t):PE X ex (zc t):=by
 intro pins s U H Q I q;obtain⟨a,u,r,f,q⟩:=q
 obtain⟨o,e⟩:∃o,s.heap.get? a=some o:=by
  rcases r with r|⟨o,r⟩
  ·have:=(I.hok a _ r)
   cases u with
   | lst xs=>obtain⟨_,_,_,_,e⟩:=this;exact⟨_,e⟩
   | dK kvs=>obtain⟨_,_,_,_,o,_,_,e,_⟩:=this;exact⟨_,e⟩
   | dT kvs=>obtain⟨_,_,_,_,o,_,_,e,_⟩:=this;exact⟨_,e⟩
   | _=>exact f.elim
  exact{o,(I.hok a _ r).1}
 refine Xr (h pins s U _ _ (I.freeze r f e) (q o)) (λv s' z=>?_) λ_ _ z=>z;obtain⟨v',H',J,rv,h1,h2⟩:=z;exact{v',_,I.thaw r f e J h1,rv,h2}
end
def Itd (a:Addr) (o:Obj) (kvs:List (Key × V)):It :=
 {λi H=>H a=-.frz o (.dK kvs)/\i<kvs.length,λi H x H'=>H'=H/\∃k v,kvs[i]?=-(k,v)/\x=kV k,λi H=>H a=-.frz o (.dK kvs)/\kvs.length<=i}
theorem wX {P:Program} {w:World} {k:Key} {u:Value} (h:(bq P w).is k u=true):aY (kV k) u:=by
 rcases bI (show je k u=true from h) with⟨i,t,rfl,rfl⟩|⟨x,t,rfl,rfl⟩
 ·exact⟨t,rfl⟩
 exact⟨t,rfl⟩
theorem KV.len {κ:Type} {xs:List (κ × V)} {ys:List (κ × Value)} (r:KV xs ys):xs.length=ys.length:=Paired.length r
theorem KV.get {κ:Type}:∀{xs:List (κ × V)} {ys:List (κ × Value)} {i:Nat} {k:κ} {v:V},KV xs ys->xs[i]?=-(k,v)->∃u,ys[i]?=-(k,u)/\aY v u
 | _,_,_,_,_,.nil,e=>by simp at e
 | _,(k',u)::_,0,k,v,.cons r _,e=>by
  simp at e;subst e;obtain⟨r1,r2⟩:=r;have r1:k=k':=r1;subst r1;exact⟨u,rfl,r2⟩
 | _,_,i+1,k,v,.cons _ t,e=>by
  obtain⟨u,h1,h2⟩:=KV.get (i:=i) t (~~~e);exact{u,~~~h1,h2}
variable {kvs:List (Key × V)}
theorem g_ {X:Cx} {pins:J5} {U:St} {s:Shared} {o:Obj} {es:Array DictEntry} {ep:Nat} (I:Inv X pins U H s) (h:H a=-.frz o (.dK kvs)) (hd:o.data=.dict es ep) :
  ∃vs,KV kvs vs/\s.heap.DictAt (bq X.prog X.w) a vs ep/\(a==sysModules)=false:=by
 obtain⟨e1,z,y,vs,rel,ob,es',ep',e2,c,d,r⟩:=I.hok a _ h;rw[e1]at e2;cases e2;rw[hd]at d;cases d;exact{vs,rel,⟨o,es,e1,c,hd,r⟩,y}
theorem uf {P:Program} {w:World} {K:PySem.W.Frag} {tg:Expr} (a it:Addr) (o:Obj) (kvs:List (Key × V)) (es:Array DictEntry) (ep:Nat) (hd:o.data=.dict es ep):Turn P w K tg (Itd a o kvs) [it] it (λi h=>h.IsKeyIter it a i kvs.length ep) where
 mem:=by simp
 obj:=λi h st b hb=>by
  have e:b=it:=by simpa using hb
  subst e;obtain⟨ob,e,c,d⟩:=st;exact{ob,e,λv z=>by rw[d]at z;cases z}
 keep:=λi h h' st k=>st.at λo e=>k it (by simp) o e
 item:=by
  intro X hP hw hK hc i pins s U H E I hf st hg;subst hP hw hK;obtain⟨hz,hi⟩:=hg;obtain⟨vs,rel,da,_⟩:=g_ I hz hd;obtain⟨⟨k,v⟩,hx⟩:∃p,kvs[i]?=some p:={kvs[i],by simp[hi]};obtain⟨u,hu,ru⟩:=rel.get hx;obtain⟨f0,f1,f2,f3,f4,f5⟩:=hf it (by simp);have st0:=st;rw[rel.len]at st;refine wpAny_pyNext_dict_item st da hu λkey h' hkey st' sb=>?_;have I1:Inv X pins U H { s with heap:=h' }:=I.turned (t':=s.toks) (λb o hb e=>(sb.2 b hb).trans e) f0 f1 f3 f4 f5;rw[<-rel.len]at st';obtain⟨ob,e,c,d⟩:=id st';exact{key,rfl,xa (s:={ s with heap:=h' }) e c d (by decide) {kV k,H,I1,wX hkey,⟨rfl,k,v,hx,rfl⟩,st',λb hb=>(hf b hb).1} }
 done:=by
  intro X hP hw hK hc i pins s U H E I hf st hg;subst hP hw hK;obtain⟨hz,hi⟩:=hg;obtain⟨vs,rel,da,_⟩:=g_ I hz hd;obtain⟨f0,f1,f2,f3,f4,f5⟩:=hf it (by simp);rw[rel.len]at st;exact wpAny_pyNext_dict_end (I.ok.hd hc) st da (Xd (by rw[<-rel.len];exact hi)) λh' eb=>{rfl,I.turned (t':=s.toks) (λb o hb e=>eb b o hb e) f0 f1 f3 f4 f5}
 self:=λ_ _ _ _ _ st h=>wpAny_pyIter_keyiter st h
def w6 (tl:TE):TI:=λU H R=>tl U H λx H1=>∃a o kvs,x=.ref a/\H1 a=-.frz o (.dK kvs)/\R (Itd a o kvs) H1
section
variable {X:Cx} {tg:Expr}
theorem eR {l:Expr} {tl:TE} (hl:PE X l tl):PI X tg l (w6 tl):=by
 intro pins s U H R I h;refine thn (hl pins s U H _ I h) λv s1 ⟨x,H1,I1,r1,q1⟩=>?_;obtain⟨a,o,kvs,e,hz,q⟩:=q1;subst e;cases r1;obtain⟨e1,_,_,vs,rel,ob,es,ep,e2,c,d,r⟩:=I1.hok a _ hz;rw[e1]at e2;cases e2;obtain⟨vs,rel,da,hm⟩:=g_ I1 hz d;refine wpAny_pyIter_dict hm da ?_;refine{s1.heap.objs.size,[s1.heap.objs.size],_,_,H1,rfl,I1.kept (t':=s1.toks) λb o e=>Qd _ e,uf a _ o kvs es ep d,{_,Qr _ rfl,rfl,by rw[rel.len];rfl},λb hb=>?_,q};have e:b=s1.heap.objs.size:=by simpa using hb
 subst e;exact I1.fpOk (Qh _) (I1.hok.fresh (Qh _))
end
theorem iw {o:Obj} {g:TG} {tb:TS} {D:Ends} {U:St} (Pv:Nat->St->Hp->Prop) (h0:Pv 0 U H) (hl:∀i U H,i<=kvs.length->Pv i U H->H a=-.frz o (.dK kvs))
  (hs:∀i k v U H,kvs[i]?=-(k,v)->Pv i U H->g (kV k) U H λσ2 H2=>tb { D with nx:=Pv (i+1),ct:=Pv (i+1),bk:=D.nx } σ2 H2) (hd:∀U H,Pv kvs.length U H->D.nx U H) :
  ∃W:Nat->Nat->St->Hp->Prop,(∃m,W 0 m U H)/\∀i m U H,W i m U H ->
   ((Itd a o kvs).stop i H/\D.nx U H)\/((Itd a o kvs).go i H/\∃N:St->Hp->Prop,(∀σ' H',N σ' H'->∃m',m'<m/\W (i+1) m' σ' H')/\∀x H',(Itd a o kvs).yld i H x H'->g x U H' λσ2 H2=>tb { D with nx:=N,ct:=N,bk:=D.nx } σ2 H2):=by
 refine{λi m U H=>m=kvs.length-i/\i<=kvs.length/\Pv i U H,{kvs.length,by simp,QB _,h0},?_};rintro i m U H ⟨rfl,hi,p⟩;have q:=hl i U H hi p;by_cases hlt:i<kvs.length
 ·refine .inr {⟨q,hlt⟩,Pv (i+1),λσ' H' p'=>{kvs.length-(i+1),⇑(om6 hlt),rfl,hlt,p'},λx H' y=>?_};obtain⟨e,k,v,hk,ex⟩:=y;subst e ex;exact hs i k v U _ hk p
 have e:i=kvs.length:=by exact om0 hi hlt
 subst e;exact .inl { {q,Qh _},hd U H p}
section
variable {X:Cx} {o e f:Expr} {apos cpos:Pos} {td ty tx:TE}
end
def leT (a b:Str):Prop:=¬(b.cps.toList<a.cps.toList)
theorem qz {a b:Str} (h1:leT a b) (h2:leT b a):a=b:=by
 have e:=List.le_antisymm (List.not_lt.mp h1) (List.not_lt.mp h2);cases a;cases b;exact congrArg Str.mk (Array.toList_inj.mp e)
theorem jW {xs ys:List Str} (hx:xs.Pairwise leT) (hy:ys.Pairwise leT) (p:xs.Perm ys):xs=ys:=List.Perm.eq_of_pairwise (λa b _ _ h1 h2=>qz h1 h2) hx hy p
theorem jV {ts:List Str} {out:List Value}:∀{us:List Value},StrsAre us ts->out.Perm us->out.Pairwise (Tm.leV PyProof.Rows.strKind)->∃ss,StrsAre out ss/\ss.Perm ts/\ss.Pairwise leT:=λ{us} h p s=>by
 have all:∀v∈out,∃x t,v=.str x t:=λv hv=>h.all v (p.mem_iff.mp hv);refine{out.map strOf,strsAre_map out all,by rw[<-h.strs];exact p.map _,?_};rw[XN];refine s.imp_of_mem λ{a b} ha hb q=>?_;obtain⟨x,t,rfl⟩:=all a ha;obtain⟨y,u,rfl⟩:=all b hb;have q:decide (y.cps.toList<x.cps.toList)=false:=q;show ¬(y.cps.toList<x.cps.toList);simpa using q
theorem gQ:∀{ys:List Str} {us:List Value},StrsAre us ys->ba (ys.map V.str) us
 | _,_,.nil=>.nil
 | _,_,.cons x t h=>.cons ⟨t,rfl⟩ (gQ h)
theorem sM:∀{as:List Value} {ss:List Str},as.length=ss.length->(∀(j:Nat) v,as[j]?=-v->∃x t,ss[j]?=-x/\v=.str x t)->StrsAre as ss
 | [],[],_,_=>.nil
 | [],_::_,h,_=>by simp at h
 | _::_,[],h,_=>by simp at h
 | a::as,x::ss,h,f=>by
  obtain⟨y,t,e1,e2⟩:=f 0 a rfl;cases e1;subst e2;exact .cons x t (sM (~~~h) λj v e=>by obtain⟨y,t,e1,e2⟩:=f (j+1) v (~~~e);exact{y,t,~~~e1,e2})
section
variable {X:Cx}
def BH (K:PySem.W.Frag) (H:Hp) (l:Addr) (ss:List Str):Prop:=SqL K H l (ss.map V.str)\/∃kvs,Rd H l (.dK kvs)/\kvs.map (·.1)=ss.map Sum.inr
def AK (K:PySem.W.Frag):List V->Hp->VK->Prop:=λxs H Q=>∃(l:Addr) (ss:List Str),xs=[.ref l]/\BH K H l ss/\ss.length<=100000/\∀(p:Addr) (ss':List Str),H p=none->ss'.Perm ss->ss'.Pairwise leT->Q (.ref p) (upd H p (.lst (ss'.map V.str)))
theorem fL (hc:X.calm=true):d6 X (.builtin "sorted") (AK X.K):=by
 intro pins s U H xs us Q I r h;obtain⟨l,ss,rfl,src,hz,q⟩:=h;obtain⟨u,rfl,ru⟩:=d8 r;cases ru
 have fin:∀(D:Addr) (h':Heap) (tk:Nat) (vs:List Value) (h1:Heap) (out:Array Value) (m:Nat),(∀b o,s.heap.get? b=-o->h1.get? b=-o)->StrsAre vs ss->(∀b o,h1.get? b=-o->h'.get? b=-o)->s.heap.objs.size<=D->h1.objs.size<=D->h'.get? D=-seqObj "list" out m->out.toList.Perm vs->out.toList.Pairwise (Tm.leV PyProof.Rows.strKind)->EP X pins U Q (.ref D) { s with heap:=h',toks:=tk }:=λD h' tk vs h1 out m k1 g1 k2 hle hD at' p1 p2=>by
  obtain⟨ss',so,pm,st⟩:=jV g1 p1 p2;have lo:ss'.length=ss.length:=pm.length_eq;exact{.ref D,_,I.laid (o:=.lst (ss'.map V.str)) (t':=tk) (λb o g=>k2 b o (k1 b o g)) hle {by rw[Qa,XC];exact wo hz lo,out.toList,m,gQ so,at'},rfl,q _ ss' (I.hok.fresh hle) pm st}
 rcases src with hl|⟨kvs,rd,ek⟩
 ·obtain⟨its,rv,pl,_⟩:=I.list hl;have sa:=gR rv;have hlen:its.length=ss.length:=by rw[<-rv.length,Qa]
  refine Tm.gu (s:=s) (κ:=λ_=>PyProof.Rows.strKind) (kd:=oneType') (G:=λ_ vs=>StrsAre vs ss) (λA E R _ hR=>collect_list pl.isList (hR _ _ its (λb o e=>?_) (by rw[Heap.size_update,size_push'];exact Nat.le_succ _) sa) (by rw[XC];exact wo hz hlen)) (I.ok.hd hc) (λh' vs D k g _=>{by rw[g.length];exact hz,Tm.lm g}) fin;exact(Q4 _ _ (XG (Qm e))).trans (Qd _ e)
 obtain⟨z,hm,vs,rel,dd⟩:=jh I.hok rd;obtain⟨ep,da⟩:=dd.dictAt
 have kl:vs.length=ss.length:=by
  have:=congrArg List.length ek;rw[Qa,Qa]at this;rw[<-this];exact(KV.len rel).symm
 refine Tm.gu (s:=s) (κ:=λ_=>PyProof.Rows.strKind) (kd:=oneType') (G:=λ_ vs=>StrsAre vs ss) (λA E R hA hR=>Tm.xw (PySem.W.kdl_dict (knd:=bq X.prog X.w) (kvs:=vs) (ep:=ep) hm) hA da (by rw[XC];exact wo hz kl) λh' tk acc k z it=>hR h' tk acc.toList k z ?_) (I.ok.hd hc) (λh' vs D k g _=>{by rw[g.length];exact hz,Tm.lm g}) fin;have al:acc.toList.length=ss.length:=by rw[Qs,it.1,kl]
 have at_:∀(j:Nat) v,acc.toList[j]?=-v->∃x t,ss[j]?=-x/\v=.str x t:=λj v e=>by
  obtain⟨k,x,e1,e2⟩:=it.2 j v (by rw[<-QA];exact e)
  obtain⟨y,e3⟩:∃y,kvs[j]?=some (k,y):=by
   have hj:j<kvs.length:=by rw[KV.len rel];exact(Qe.mp e1).1
   obtain⟨u,hu,_⟩:=KV.get (i:=j) (k:=kvs[j].1) (v:=kvs[j].2) rel (by rw[Qc hj]);rw[e1]at hu;cases hu;exact{kvs[j].2,by rw[Qc hj]}
  have e4:=congrArg (·[j]?) ek;simp only[Qi,e3]at e4
  cases e5:ss[j]? with
  | none=>rw[e5]at e4;cases e4
  | some y' =>
  rw[e5]at e4;have e6:k=Sum.inr y':=Q2 e4;subst e6;obtain⟨t,e7⟩:=wX e2;exact⟨y',t,rfl,e7⟩
 exact sM al at_
end
section
variable {X:Cx}
end
section
variable {X:Cx}
def sW (T:Addr):R2:=λx y H Q=>x=.ref T/\((y=.str "0" /\ Q (.str "1") H)\/(y=.str "1" /\ Q (.str "0") H))
theorem yG {T:Addr} (hT:sH X.K T [("0", .flat (.str "1")),("1", .flat (.str "0"))]):IxR X (sW T):=by
 intro value slice pins s U H x y v u Q I rx ry h hs;obtain⟨e1,h⟩:=h;subst e1;cases rx;have here:KTD.Here X.base s.heap T [("0", .flat (.str "1")),("1", .flat (.str "0"))]:={KTD.text_of_look (get:=λa=>X.K.lookup a) (λa o e=>I.mod.kin a o e) hT,I.bk};rcases h with⟨e,q⟩|⟨e,q⟩
 ·subst e;obtain⟨t,e⟩:=ry;subst e;refine KTD.item_textA here (by rfl) (by decide +kernel) ?_ hs;have e:decide (("0" : Str) = "0")=true:=by decide +kernel
  simp only[KTD.EachL,e,if_true];exact λt=>{.str "1", H,I.tok _,⟨_,rfl⟩,q}
 subst e;obtain⟨t,e⟩:=ry;subst e;refine KTD.item_textA here (by rfl) (by decide +kernel) ?_ hs;have e:decide (("1" : Str) = "0")=false:=by decide +kernel
 simp only[KTD.EachL,e,QW,if_false];exact λ_ t=>{.str "0", H,I.tok _,⟨_,rfl⟩,q}
end
end L2
namespace LZ
open PySem
section
variable {prog:Program} {w:World} {A:Around} {E:J0} {s:Shared}
abbrev IsZ (h:Heap) (z TI TO:Addr) (f0:Value) (f1:Bool):Prop :=
 h.get? z=some { cls:=.type "zip", dict:=none,data:=.fields #[f0,.bool f1,.bool false,.ref TI,.ref TO],slots:=#[] }
structure Apart5 (z TI TO i1 i2 l:Addr):Prop where
 TIz:TI≠z
 TOz:TO≠z
 i1z:i1≠z
 i2z:i2≠z
 TITO:TI≠TO
 TIi1:TI≠i1
 TIi2:TI≠i2
 TOi1:TO≠i1
 TOi2:TO≠i2
 i12:i1≠i2
 lz:l≠z
 lTO:l≠TO
 li1:l≠i1
 li2:l≠i2
variable {t:Tok} {x:Str} {it z i1 i2 l a:Addr} {ty:String}
theorem iH (hty:ty = "str_ascii_iterator" \/ ty = "str_iterator") {i c:Nat} {Q:J0} (hit:s.heap.IsStrIter it ty x t i) (hx:x.cps[i]?=-c)
  (hQ:∀h',h'.IsStrIter it ty x t (i+1)->Heap.SameBut it s.heap h'->Q (.str {#[c]} s.toks) { s with heap:=h',toks:=s.toks+1 }) :
  wpAny (model prog w) A (Builtin.SmallTypes.nextOf (.ref it)) Q E s:=by
 rcases hty with e|e
 ·subst e;exact wpAny_nextOf_ascii_item hit hx hQ
 subst e;exact wpAny_nextOf_wide_item hit hx hQ
variable {Q:Option Value->Shared->Prop} {xs:Array Value}
theorem rK (hty:ty = "str_ascii_iterator" \/ ty = "str_iterator") {TI TO:Addr} {k c:Nat} {v a b:Value} (D:Apart5 z TI TO i1 i2 l)
  (hz:IsZ s.heap z TI TO .none false) (hTI:IsPair s.heap TI (.ref i1) (.ref i2)) (hTO:IsPair s.heap TO a b) (h1:s.heap.IsListIter i1 l k) (h2:s.heap.IsStrIter i2 ty x t k) (hl:s.heap.IsList l xs) (hv:xs[k]?=-v) (hc:x.cps[k]?=-c)
  (hQ:∀h',IsZ h' z TI TO (rawInt s.heap.objs.size) false->(∃a b,IsPair h' TO a b)->h'.IsListIter i1 l (k+1)->h'.IsStrIter i2 ty x t (k+1)->IsPair h' s.heap.objs.size v (.str {#[c]} s.toks)->h'.objs.size=s.heap.objs.size+1 ->
   (∀c o,c≠z->c≠TO->c≠i1->c≠i2->s.heap.get? c=-o->h'.get? c=-o)->Q (-.ref s.heap.objs.size) { s with heap:=h',toks:=s.toks+1 }) :
  wpAny (model prog w) A (pyNext (.ref z)) Q E s:=by
 have hT:s.TypeIs (.ref z) "zip" := ⟨_,hz,rfl⟩;unfold pyNext
 refine Qb (wpAny_attempt (XY (name:=Str.ofString "__next__") hT F.slot_zip_next
  (XH F.slot_zip_next hT F.entry_zip_next ?_ (F.args_zip_next_1 _))))
 show wpAny _ _ (field (.ref z) 2 >>= _) _ _ _;refine Qb (Xs hz rfl (x:=.bool false) rfl ?_);show wpAny _ _ (field (.ref z) 3 >>= _) _ _ _;refine Qb (Xs hz rfl (x:=.ref TI) rfl ?_);refine Qb (wpAny_seqItems hTI rfl ?_);show wpAny _ _ (Builtin.SmallTypes.ownedTupleIsFree (.ref z) >>= _) _ _ _;refine Qb ?_;unfold Builtin.SmallTypes.ownedTupleIsFree;refine Qb (Xs hz rfl (x:=.none) rfl (Qf ?_));simp only[if_true];refine Qb (XU ?_);refine Qb (Xs hz rfl (x:=.ref TO) rfl ?_);refine Qb (Xl hz (by simp) λh₁ hz1 hs₁=>?_)
 replace hz1:IsZ h₁ z TI TO .ellipsis false:=hz1
 refine Qb ?_;simp only[List.zipIdx_cons,List.zipIdx_nil,List.forIn_cons,List.forIn_nil];refine Qb (Qb (wpAny_onRaise ?_));show wpAny _ _ (Builtin.SmallTypes.nextOf (.ref i1) >>= _) _ _ _;refine Qb (wpAny_nextOf_list_item (h1.extBut hs₁.extBut D.i1z) (hl.extBut hs₁.extBut D.lz) hv λh₂ h12 hs₂=>Qf ?_);have hTO2:IsPair h₂ TO a b:=hs₂.extBut _ _ D.TOi1 (hs₁.extBut _ _ D.TOz hTO);refine Qb (wpAny_seqItems hTO2 rfl ?_);refine Qb (wpAny_updateSeq_pair hTO2 λh₃ hTO3 hs₃=>?_)
 replace hTO3:IsPair h₃ TO v b:=hTO3
 refine Qb (wpAny_letGo (Qf ?_));refine Qb (Qb (wpAny_onRaise ?_));show wpAny _ _ (Builtin.SmallTypes.nextOf (.ref i2) >>= _) _ _ _;have h23:h₃.IsStrIter i2 ty x t k:=((h2.extBut hs₁.extBut D.i2z).extBut hs₂.extBut D.i12.symm).extBut hs₃.extBut D.TOi2.symm;refine Qb (iH hty h23 hc λh₄ h2₄ hs₄=>Qf ?_);have hTO4:IsPair h₄ TO v b:=hs₄.extBut _ _ D.TOi2 hTO3;refine Qb (wpAny_seqItems hTO4 rfl ?_);refine Qb (wpAny_updateSeq_pair hTO4 λh₅ hTO5 hs5=>?_)
 replace hTO5:IsPair h₅ TO v (.str {#[c]} s.toks):=hTO5
 refine Qb (wpAny_letGo (Qf (Qf ?_)));refine Qb (wpAny_seqItems hTO5 rfl ?_);refine Qb (wpAny_newTuple ?_);have hsz:h₅.objs.size=s.heap.objs.size:=by rw[hs5.1,hs₄.1,hs₃.1,hs₂.1,hs₁.1]
 have hz5:IsZ h₅ z TI TO .ellipsis false:=hs5.extBut _ _ D.TOz.symm (hs₄.extBut _ _ D.i2z.symm (hs₃.extBut _ _ D.TOz.symm (hs₂.extBut _ _ D.i1z.symm hz1)))
 have hk₅:∀c o,c≠z->c≠TO->c≠i1->c≠i2->s.heap.get? c=-o->h₅.get? c=-o:=λc o c1 c2 c3 c4 e =>
  hs5.extBut _ _ c2 (hs₄.extBut _ _ c4 (hs₃.extBut _ _ c2 (hs₂.extBut _ _ c3 (hs₁.extBut _ _ c1 e))))
 have h1₅:h₅.IsListIter i1 l (k+1):=((h12.extBut hs₃.extBut D.TOi1.symm).extBut hs₄.extBut D.i12).extBut hs5.extBut D.TOi1.symm;have h25:h₅.IsStrIter i2 ty x t (k+1):=h2₄.extBut hs5.extBut D.TOi2.symm;have hzlt:z<h₅.objs.size:=Qm hz5;show wpAny _ _ (Builtin.SmallTypes.ownedTupleHandOut (.ref z) (.ref h₅.objs.size) >>= _) _ _ _;refine Qb ?_;unfold Builtin.SmallTypes.ownedTupleHandOut;have hz6:IsZ (h₅.push { cls:=.type "tuple", data:=.seq #[v,.str {#[c]} s.toks] }) z TI TO .ellipsis false:=Qd _ hz5;refine Qb (Xl hz6 (by simp) λh₇ hz7 hs7=>?_)
 replace hz7:IsZ h₇ z TI TO (rawInt h₅.objs.size) false:=hz7
 refine Xl hz7 (by simp) λh₈ hz₈ hs8=>?_
 replace hz₈:IsZ h₈ z TI TO (rawInt h₅.objs.size) false:=hz₈
 have up:∀c o,c≠z->h₅.get? c=-o->h₈.get? c=-o:=λc o c1 e=>hs8.extBut _ _ c1 (hs7.extBut _ _ c1 (Qd _ e));have hT8:IsPair h₈ h₅.objs.size v (.str {#[c]} s.toks):=hs8.extBut _ _ (XG hzlt) (hs7.extBut _ _ (XG hzlt) (Qr _ rfl));have hz8:h₈.objs.size=h₅.objs.size+1:=by rw[hs8.1,hs7.1,Xe]
 rw[hsz]at hz₈ hT8 hz8;refine Qf {_,rfl,Qf ?_};show Q (-.ref h₅.objs.size) _;rw[hsz];exact hQ h₈ hz₈ {_,_,up _ _ D.TOz hTO5} (h1₅.at λo e=>up _ o D.i1z e) (let ⟨o,e,r⟩:=h25;{o,up _ o D.i2z e,r}) hT8 hz8 λc o c1 c2 c3 c4 e=>up c o c1 (hk₅ c o c1 c2 c3 c4 e)
theorem Av {o:Obj} {Q:Option Obj->Shared->Prop} (ho:s.heap.get? a=-o) (h:Q (-o) s):wpAny (model prog w) A (loadIfAlive a) Q E s:=by
 have h':Q (s.heap.get? a) s:=by rw[ho];exact h
 exact λ_ _ _=>h'
theorem rJ (hty:ty = "str_ascii_iterator" \/ ty = "str_iterator") {TI TO T:Addr} {f1:Bool} {oT:Obj} {k c:Nat} {v:Value} (D:Apart5 z TI TO i1 i2 l)
  (hz:IsZ s.heap z TI TO (rawInt T) f1) (hT:s.heap.get? T=-oT) (hTI:IsPair s.heap TI (.ref i1) (.ref i2)) (h1:s.heap.IsListIter i1 l k) (h2:s.heap.IsStrIter i2 ty x t k) (hl:s.heap.IsList l xs) (hv:xs[k]?=-v) (hc:x.cps[k]?=-c)
  (hQ:∀h',IsZ h' z TI TO (rawInt T) true->h'.IsListIter i1 l (k+1)->h'.IsStrIter i2 ty x t (k+1)->IsPair h' s.heap.objs.size v (.str {#[c]} s.toks)->h'.objs.size=s.heap.objs.size+1 ->
   (∀c o,c≠z->c≠i1->c≠i2->s.heap.get? c=-o->h'.get? c=-o)->Q (-.ref s.heap.objs.size) { s with heap:=h',toks:=s.toks+1 }) :
  wpAny (model prog w) A (pyNext (.ref z)) Q E s:=by
 have hTy:s.TypeIs (.ref z) "zip" := ⟨_,hz,rfl⟩;unfold pyNext
 refine Qb (wpAny_attempt (XY (name:=Str.ofString "__next__") hTy F.slot_zip_next
  (XH F.slot_zip_next hTy F.entry_zip_next ?_ (F.args_zip_next_1 _))))
 show wpAny _ _ (field (.ref z) 2 >>= _) _ _ _;refine Qb (Xs hz rfl (x:=.bool false) rfl ?_);show wpAny _ _ (field (.ref z) 3 >>= _) _ _ _;refine Qb (Xs hz rfl (x:=.ref TI) rfl ?_);refine Qb (wpAny_seqItems hTI rfl ?_);show wpAny _ _ (Builtin.SmallTypes.ownedTupleIsFree (.ref z) >>= _) _ _ _;refine Qb ?_;unfold Builtin.SmallTypes.ownedTupleIsFree;refine Qb (Xs hz rfl (x:=rawInt T) rfl ?_);show wpAny _ _ (loadIfAlive ((T:Int).toNat) >>= _) _ _ _;rw[Xq];refine Qb (Av hT ?_);simp only[Option.isNone_some,QW,if_false];refine Qb (Xs hz rfl (x:=.bool f1) rfl ?_)
 cases f1 with
 | false =>
  simp only[show (Value.bool false != Value.bool true)=true from rfl,if_true];refine Qb (Xl hz (by simp) λh₁ hz1 hs₁=>Qf ?_)
  replace hz1:IsZ h₁ z TI TO (rawInt T) true:=hz1
  simp only[QW,if_false,List.forIn_toArray,List.forIn_cons,List.forIn_nil];refine Qb (Qb (Qb (Q3 ?_)));show wpAny _ _ (Builtin.SmallTypes.nextOf (.ref i1) >>= _) _ _ _;refine Qb (wpAny_nextOf_list_item (h1.extBut hs₁.extBut D.i1z) (hl.extBut hs₁.extBut D.lz) hv λh₂ h12 hs₂=>Qf ?_);refine Qf ?_;dsimp only;refine Qb (Qb (Q3 ?_));show wpAny _ _ (Builtin.SmallTypes.nextOf (.ref i2) >>= _) _ _ _;have h22:h₂.IsStrIter i2 ty x t k:=(h2.extBut hs₁.extBut D.i2z).extBut hs₂.extBut D.i12.symm;refine Qb (iH hty h22 hc λh₄ h2₄ hs₄=>Qf ?_);refine Qf (Qf ?_);dsimp only;show wpAny _ _ (newTuple [v,.str {#[c]} s.toks] >>= _) _ _ _;refine Qb (wpAny_newTuple ?_);have hsz:h₄.objs.size=s.heap.objs.size:=by rw[hs₄.1,hs₂.1,hs₁.1]
  have hz4:IsZ h₄ z TI TO (rawInt T) true:=hs₄.extBut _ _ D.i2z.symm (hs₂.extBut _ _ D.i1z.symm hz1);have hk₄:∀c o,c≠z->c≠i1->c≠i2->s.heap.get? c=-o->h₄.get? c=-o:=λc o c1 c3 c4 e=>hs₄.extBut _ _ c4 (hs₂.extBut _ _ c3 (hs₁.extBut _ _ c1 e));refine Qf {_,rfl,Qf ?_};show Q (-.ref h₄.objs.size) _;rw[hsz];exact hQ _ (Qd _ hz4) ((h12.extBut hs₄.extBut D.i12).at λo e=>Qd _ e) (let ⟨o,e,r⟩:=h2₄;{o,Qd _ e,r}) (by rw[<-hsz];exact Qr _ rfl) (by rw[Xe,hsz]) λc o c1 c3 c4 e=>Qd _ (hk₄ c o c1 c3 c4 e)
 | true =>
 simp only[show (Value.bool true != Value.bool true)=false from rfl,QW,if_false];refine Qf ?_;have hz1:IsZ s.heap z TI TO (rawInt T) true:=hz;have hs₁:Heap.SameBut z s.heap s.heap:=.refl ..;simp only[QW,if_false,List.forIn_toArray,List.forIn_cons,List.forIn_nil];refine Qb (Qb (Qb (Q3 ?_)));show wpAny _ _ (Builtin.SmallTypes.nextOf (.ref i1) >>= _) _ _ _;refine Qb (wpAny_nextOf_list_item (h1.extBut hs₁.extBut D.i1z) (hl.extBut hs₁.extBut D.lz) hv λh₂ h12 hs₂=>Qf ?_);refine Qf ?_;dsimp only;refine Qb (Qb (Q3 ?_));show wpAny _ _ (Builtin.SmallTypes.nextOf (.ref i2) >>= _) _ _ _;have h22:h₂.IsStrIter i2 ty x t k:=(h2.extBut hs₁.extBut D.i2z).extBut hs₂.extBut D.i12.symm;refine Qb (iH hty h22 hc λh₄ h2₄ hs₄=>Qf ?_);refine Qf (Qf ?_);dsimp only;show wpAny _ _ (newTuple [v,.str {#[c]} s.toks] >>= _) _ _ _;refine Qb (wpAny_newTuple ?_);have hsz:h₄.objs.size=s.heap.objs.size:=by rw[hs₄.1,hs₂.1,hs₁.1]
 have hz4:IsZ h₄ z TI TO (rawInt T) true:=hs₄.extBut _ _ D.i2z.symm (hs₂.extBut _ _ D.i1z.symm hz1);have hk₄:∀c o,c≠z->c≠i1->c≠i2->s.heap.get? c=-o->h₄.get? c=-o:=λc o c1 c3 c4 e=>hs₄.extBut _ _ c4 (hs₂.extBut _ _ c3 (hs₁.extBut _ _ c1 e));refine Qf {_,rfl,Qf ?_};show Q (-.ref h₄.objs.size) _;rw[hsz];exact hQ _ (Qd _ hz4) ((h12.extBut hs₄.extBut D.i12).at λo e=>Qd _ e) (let ⟨o,e,r⟩:=h2₄;{o,Qd _ e,r}) (by rw[<-hsz];exact Qr _ rfl) (by rw[Xe,hsz]) λc o c1 c3 c4 e=>Qd _ (hk₄ c o c1 c3 c4 e)
theorem qq {TI TO:Addr} {f0:Value} {f1:Bool} {k:Nat} {a b:Value} (hh:A.handled=none) (D:Apart5 z TI TO i1 i2 l)
  (hz:IsZ s.heap z TI TO f0 f1) (hf:(f0=.none/\f1=false/\∃a b,IsPair s.heap TO a b)\/∃(T:Addr) (oT:Obj),f0=rawInt (T:Nat)/\s.heap.get? T=-oT) (hTI:IsPair s.heap TI (.ref i1) (.ref i2)) (h1:s.heap.IsListIter i1 l k) (hl:s.heap.IsList l xs) (hv:xs[k]?=none)
  (hQ:∀h',(∀c o,c≠z->c≠i1->s.heap.get? c=-o->h'.get? c=-o)->Q none { s with heap:=h' }):wpAny (model prog w) A (pyNext (.ref z)) Q E s:=by
 have hTy:s.TypeIs (.ref z) "zip" := ⟨_,hz,rfl⟩;unfold pyNext
 refine Qb (wpAny_attempt (XY (name:=Str.ofString "__next__") hTy F.slot_zip_next
  (XH F.slot_zip_next hTy F.entry_zip_next ?_ (F.args_zip_next_1 _))))
 show wpAny _ _ (field (.ref z) 2 >>= _) _ _ _;refine Qb (Xs hz rfl (x:=.bool false) rfl ?_);show wpAny _ _ (field (.ref z) 3 >>= _) _ _ _;refine Qb (Xs hz rfl (x:=.ref TI) rfl ?_);refine Qb (wpAny_seqItems hTI rfl ?_);show wpAny _ _ (Builtin.SmallTypes.ownedTupleIsFree (.ref z) >>= _) _ _ _;refine Qb ?_;unfold Builtin.SmallTypes.ownedTupleIsFree;refine Qb (Xs hz rfl (x:=f0) rfl ?_)
 have fin:∀h' e,(∀c o,c≠z->c≠i1->s.heap.get? c=-o->h'.get? c=-o)->(∃o,h'.get? e=-o/\o.cls=.type "StopIteration") ->
   wpAny (model prog w) A (do if <-isInstance (.ref e) (.type "StopIteration") then pure none else throw (.ref e)) Q E { s with heap:=h' }:=λh' e hk ⟨o,ho,hc⟩ =>
  Qb (wpAny_isInstance (T := "StopIteration") (b:=true) ⟨o,ho,hc⟩ isSubtype_stop (Qf (hQ _ hk)))
 rcases hf with⟨e1,e2,a,b,hTO⟩|⟨T,oT,e1,hT⟩
 ·subst e1 e2;refine Qf ?_;simp only[if_true];refine Qb (XU ?_);refine Qb (Xs hz rfl (x:=.ref TO) rfl ?_);refine Qb (Xl hz (by simp) λh₁ hz1 hs₁=>?_)
  replace hz1:IsZ h₁ z TI TO .ellipsis false:=hz1
  refine Qb ?_;simp only[List.zipIdx_cons,List.zipIdx_nil,List.forIn_cons,List.forIn_nil];refine Qb (Qb (wpAny_onRaise ?_));show wpAny _ _ (Builtin.SmallTypes.nextOf (.ref i1) >>= _) _ _ _;refine Qb (wpAny_nextOf_list_end hh (h1.extBut hs₁.extBut D.i1z) (hl.extBut hs₁.extBut D.lz) hv λh₂ e hs₂ he=>?_);obtain⟨oe,hoe,hce⟩:=he;have hz₂:IsZ h₂ z TI TO .ellipsis false:=hs₂ _ _ D.i1z.symm hz1;have hez:e≠z:=λx=>by subst x;rw[hz₂]at hoe;cases hoe;simp at hce
  refine Xl hz₂ (by simp) λh₃ _ hs₃=>?_;exact fin h₃ e (λc o c1 c3 x=>hs₃.extBut _ _ c1 (hs₂ _ _ c3 (hs₁.extBut _ _ c1 x))) {oe,hs₃.extBut _ _ hez hoe,hce}
 subst e1;show wpAny _ _ (loadIfAlive ((T:Int).toNat) >>= _) _ _ _;rw[Xq];refine Qb (Av hT ?_);simp only[Option.isNone_some,QW,if_false];refine Qb (Xs hz rfl (x:=.bool f1) rfl ?_)
 cases f1 with
 | false =>
  simp only[show (Value.bool false != Value.bool true)=true from rfl,if_true];refine Qb (Xl hz (by simp) λh₁ hz1 hs₁=>Qf ?_)
  replace hz1:IsZ h₁ z TI TO (rawInt T) true:=hz1
  simp only[QW,if_false,List.forIn_toArray,List.forIn_cons,List.forIn_nil];refine Qb (Qb (Qb (Q3 ?_)));show wpAny _ _ (Builtin.SmallTypes.nextOf (.ref i1) >>= _) _ _ _;refine Qb (wpAny_nextOf_list_end hh (h1.extBut hs₁.extBut D.i1z) (hl.extBut hs₁.extBut D.lz) hv λh₂ e hs₂ he=>?_);exact fin h₂ e (λc o c1 c3 x=>hs₂ _ _ c3 (hs₁.extBut _ _ c1 x)) he
 | true =>
 simp only[show (Value.bool true != Value.bool true)=false from rfl,QW,if_false];refine Qf ?_;simp only[QW,if_false,List.forIn_toArray,List.forIn_cons,List.forIn_nil];refine Qb (Qb (Qb (Q3 ?_)));show wpAny _ _ (Builtin.SmallTypes.nextOf (.ref i1) >>= _) _ _ _;refine Qb (wpAny_nextOf_list_end hh h1 hl hv λh₂ e hs₂ he=>?_);exact fin h₂ e (λc o c1 c3 x=>hs₂ _ _ c3 x) he
abbrev zH1 (h:Heap) (l:Addr):Heap:=h.push { cls:=.type "list_iterator", data:=.fields #[.ref l,.int 0 0] }
abbrev zH2 (h:Heap) (l:Addr) (ty:String) (x:Str) (t:Tok):Heap:=(zH1 h l).push { cls:=.type ty,data:=.fields #[.str x t,.int 0 0] }
abbrev zH3 (h:Heap) (l:Addr) (ty:String) (x:Str) (t:Tok):Heap:=(zH2 h l ty x t).push { cls:=.type "tuple", data:=.seq #[.ref h.objs.size,.ref (zH1 h l).objs.size] }
abbrev zH4 (h:Heap) (l:Addr) (ty:String) (x:Str) (t:Tok):Heap:=(zH3 h l ty x t).push { cls:=.type "tuple", data:=.seq #[.none,.none] }
abbrev zH5 (h:Heap) (l:Addr) (ty:String) (x:Str) (t:Tok):Heap:=(zH4 h l ty x t).push { cls:=.type "zip", data:=.fields #[.none,.bool false,.bool false,.ref (zH2 h l ty x t).objs.size,.ref (zH3 h l ty x t).objs.size] }
def fi (x:Str):String:=if x.cps.all (·<128)=true then "str_ascii_iterator" else "str_iterator"
theorem uZ {Q:J0} (hQ:Q (.ref s.heap.objs.size) { s with heap:=s.heap.push { cls:=.type (fi x),data:=.fields #[.str x t,.int 0 0] } }):wpAny (model prog w) A (pyIter (.str x t)) Q E s:=by
 unfold fi at hQ
 cases ha:x.cps.all (·<128) with
 | true=>rw[ha,QF rfl]at hQ;exact wpAny_pyIter_ascii ha hQ
 | false=>rw[ha,QE Qn]at hQ;exact wpAny_pyIter_wide ha hQ
theorem xP (x:Str):fi x = "str_ascii_iterator" \/ fi x = "str_iterator" := by
 unfold fi
 split
 ·exact .inl rfl
 exact .inr rfl
theorem uQ (l:Addr) (xs:Array Value) (x:Str) (t:Tok) :
  Meets (Builtin.«zip.__new__» {[.type "zip", .ref l,.str x t],[]}) (λ_ R s=>s.heap.IsList l xs/\R (.ok (.ret (.ref (zH4 s.heap l (fi x) x t).objs.size))) { s with heap:=zH5 s.heap l (fi x) x t }) :=
 .of_wp λprog w A R s h=>by
  obtain⟨hp,g,d,tk,os⟩:=s;obtain⟨hl1,h⟩:=h;have hsub:=sub_zip;have hL1:Heap.IsList (Shared.heap ⟨hp,g,d,tk,os⟩) l xs:=hl1
  wp_walk using wpAny_pyIter_list hL1,uZ
  exact⟨_,rfl,h⟩
theorem xD {Q:J0} (hl1:s.heap.IsList l xs)
  (h:∀h',IsZ h' (s.heap.objs.size+4) (s.heap.objs.size+2) (s.heap.objs.size+3) .none false->IsPair h' (s.heap.objs.size+2) (.ref s.heap.objs.size) (.ref (s.heap.objs.size+1)) ->
   IsPair h' (s.heap.objs.size+3) .none .none->h'.IsListIter s.heap.objs.size l 0->h'.IsStrIter (s.heap.objs.size+1) (fi x) x t 0->h'.objs.size=s.heap.objs.size+5 ->
   (∀c o,s.heap.get? c=-o->h'.get? c=-o)->Q (.ref (s.heap.objs.size+4)) { s with heap:=h' }) :
  wpAny (model prog w) A (call (.type "zip") [.ref l,.str x t]) Q E s:=by
 refine callType_new F.called_zip (by decide) (F.typeCall_zip_2 _ _) (F.newCall_zip_2 _ _) (λobj=>F.args_object_init_3 obj _ _) F.entry_zip_new (uQ l xs x t) {hl1,?_};have z1:(zH1 s.heap l).objs.size=s.heap.objs.size+1:=Xe ..;have z2:(zH2 s.heap l (fi x) x t).objs.size=s.heap.objs.size+2:=by rw[Xe,z1]
 have z3:(zH3 s.heap l (fi x) x t).objs.size=s.heap.objs.size+3:=by rw[Xe,z2]
 have z4:(zH4 s.heap l (fi x) x t).objs.size=s.heap.objs.size+4:=by rw[Xe,z3]
 have z5:(zH5 s.heap l (fi x) x t).objs.size=s.heap.objs.size+5:=by rw[Xe,z4]
 have g5:(zH5 s.heap l (fi x) x t).get? (zH4 s.heap l (fi x) x t).objs.size=-_:=Qr _ rfl;have g4:(zH5 s.heap l (fi x) x t).get? (zH3 s.heap l (fi x) x t).objs.size=-_:=Qd _ (Qr _ rfl);have g3:(zH5 s.heap l (fi x) x t).get? (zH2 s.heap l (fi x) x t).objs.size=-_:=Qd _ (Qd _ (Qr _ rfl));have g2:(zH5 s.heap l (fi x) x t).get? (zH1 s.heap l).objs.size=-_:=Qd _ (Qd _ (Qd _ (Qr _ rfl)));have g1:(zH5 s.heap l (fi x) x t).get? s.heap.objs.size=-_:=Qd _ (Qd _ (Qd _ (Qd _ (Qr _ rfl))));show _/\_;rw[z2,z3,z4]at g5;rw[z1,z2]at g3;rw[z3]at g4;rw[z1]at g2;rw[z4]
 exact{⟨_,g5,rfl⟩,h _ g5 g3 g4 ⟨_,g1,rfl,rfl⟩ ⟨_,g2,rfl,rfl⟩ z5 λc o x =>
  Qd _ (Qd _ (Qd _ (Qd _ (Qd _ x))))}
theorem iD:typeLookup (.type "zip") "__getattr__" = pure none:=by rw[typeLookup_type,XQ];kernel_rfl
theorem lL:typeLookup (.type "zip") "keys" = pure none:=by rw[typeLookup_type,XQ];kernel_rfl
theorem fJ:entryFor table "zip.__getattribute__" = some Builtin.«object.__getattribute__» :=
 entryFor_alias (id' := "object.__getattribute__") (by kernel_rfl) (by decide +kernel) (by decide +kernel) (by kernel_rfl)
theorem kL (a:Addr) (xs:Array Value) (sl:Array (Option Value)) (u:Tok) :
  Meets (Builtin.«object.__getattribute__» {[.ref a,.str "keys" u],[]}) (λA R s=>s.heap.get? a=some { cls:=.type "zip", dict:=none,data:=.fields xs,slots:=sl }/\raisesAttr (.ref a) "keys" A R s) :=
 Meets.of_wp λprog w A R s hs=>by
  obtain⟨hp,g,d,tk,os⟩:=s;obtain⟨hx,hs⟩:=hs;have hT:(⟨hp,g,d,tk,os⟩:Shared).TypeIs (.ref a) "zip" := ⟨_,hx,rfl⟩;have hmiss:=lL;have hname:(["__module__", "__name__", "__qualname__", "__doc__", "__annotations__"]:List Str).contains "keys" = false:=by decide +kernel
  unfold Builtin.«object.__getattribute__»
  repeat (any_goals (first|assumption|wp_step))
  try simp only[hname,QW,if_false]
  repeat (any_goals (first|assumption|wp_step))
  exact wpAny_raiseAttrError hs.1 hs.2 (attrMsg_fits (by decide +kernel) (by decide +kernel))
theorem uT {sl:Array (Option Value)} (hx:s.heap.get? a=some { cls:=.type "zip", dict:=none,data:=.fields xs,slots:=sl }) (hA:A.handled=none)
  (h:∀h' tk,(∀c o,s.heap.get? c=-o->h'.get? c=-o)->Q none { s with heap:=h',toks:=tk }):wpAny (model prog w) A (getAttr? (.ref a) "keys") Q E s:=by
 obtain⟨hp,g,d,tk,os⟩:=s;have hT:∀tk',(⟨hp,g,d,tk',os⟩:Shared).TypeIs (.ref a) "zip" := λ_=>⟨_,hx,rfl⟩;have f1:=sub_AttributeError;have f3:=F.slot_zip_getattribute.lookup;have f4:=F.slot_zip_getattribute.bind (.ref a);have f5:=iD;unfold getAttr? getAttrBy? getAttrBy
 repeat (any_goals (first|assumption|exact hT _|((with_reducible show wpAny _ _ (call (Value.builtin "zip.__getattribute__") _ _) _ _ _);refine call_meets F.slot_zip_getattribute (hT _) fJ (F.args_zip_getattribute_2 _ _) (kL a xs sl _) {hx,hA,λh' tk' e hx'=>?_})|wp_step))
 obtain⟨t',u',he⟩:=hx'.there;show wpAny _ _ (getattributeRaised _ _ _ _ _ _ _) _ _ _;unfold getattributeRaised
 repeat (any_goals (first|assumption|wp_step))
 all_goals exact h _ _ hx'.keeps
end
theorem kH:mroOf (.type "dict")=pure [.type "dict", .type "object"]:=by rw[mroOf_type];kernel_rfl
theorem jt:typeLookup (.type "dict") "__new__" = pure (-.builtin "dict.__new__"):=by rw[typeLookup_type,XQ];kernel_rfl
theorem jj:TypeCalled "dict" "dict.__new__" "dict.__init__" :=
 {by decide +kernel,by decide +kernel,⟨_,_,kH⟩,madeBy_type kH jt (by decide +kernel),by decide +kernel,by rw[isSubtype_type];kernel_rfl,F.slot_dict_init}
theorem fO (a:Value):checkTypeCall "dict" {[a],[]}=pure ():=by kernel_rfl
theorem kD (a:Value):checkBuiltinCall "dict.__new__" {[.type "dict", a],[]}=pure ():=by kernel_rfl
theorem kY:entryFor table "dict.__new__" = some Builtin.«dict.__new__»:=entryFor_of_tree (by kernel_rfl)
theorem kr:plainId "dict.__new__" = true:=by decide +kernel
theorem vD:isSubtype (.type "dict") (.type "dict")=pure true:=by rw[isSubtype_type];kernel_rfl
theorem gz:entryFor table "dict.update.loop" = some Builtin.«dict.update.loop»:=entryFor_of_tree (by kernel_rfl)
theorem cV:plainId "dict.update.loop" = true:=by decide +kernel
structure ApartD (z TI TO i1 i2 l d:Addr):Prop extends Apart5 z TI TO i1 i2 l where
 dz:d≠z
 dTI:d≠TI
 dTO:d≠TO
 di1:d≠i1
 di2:d≠i2
 dl:d≠l
structure ZS (h:Heap) (z TI TO i1 i2 l d:Addr) (ty:String) (x:Str) (t:Tok) (xs:Array Value) (k:Nat):Prop where
 zf:(IsZ h z TI TO .none false/\∃a b,IsPair h TO a b)\/∃(T:Addr) (f1:Bool) (oT:Obj),IsZ h z TI TO (rawInt (T:Nat)) f1/\h.get? T=-oT/\T≠z/\T≠i1/\T≠i2/\T≠d
 ti:IsPair h TI (.ref i1) (.ref i2)
 a1:h.IsListIter i1 l k
 a2:h.IsStrIter i2 ty x t k
 li:h.IsList l xs
section
variable {prog:Program} {w:World} {K:Type} [DecidableEq K] {knd:KeyKind prog w K} {A:Around} {R:Result->Shared->Prop}
variable {Q:Option Value->Shared->Prop} {xs:Array Value} {t:Tok} {x:Str} {z i1 i2 l d:Addr} {ty:String} {s:Shared} {E:J0}
theorem xJ (hty:ty = "str_ascii_iterator" \/ ty = "str_iterator") {TI TO:Addr} {k c:Nat} {v:Value} {od:Obj} (D:ApartD z TI TO i1 i2 l d)
  (Z:ZS s.heap z TI TO i1 i2 l d ty x t xs k) (hod:s.heap.get? d=-od) (hv:xs[k]?=-v) (hc:x.cps[k]?=-c)
  (hQ:∀h' T u,ZS h' z TI TO i1 i2 l d ty x t xs (k+1)->IsPair h' T v (.str {#[c]} u)->T≠d->(∀c o,c≠z->c≠TO->c≠i1->c≠i2->s.heap.get? c=-o->h'.get? c=-o)->Q (-.ref T) { s with heap:=h',toks:=s.toks+1 }) :
  wpAny (model prog w) A (pyNext (.ref z)) Q E s:=by
 have lt:∀{c o},s.heap.get? c=-o->s.heap.objs.size≠c:=λe=>XG (Qm e);have l1:s.heap.objs.size≠i1:=by obtain⟨_,e,_⟩:=Z.a1;exact lt e
 have l2:s.heap.objs.size≠i2:=by obtain⟨_,e,_⟩:=Z.a2;exact lt e
 rcases Z.zf with⟨hz,a,b,hTO⟩|⟨T,f1,oT,hz,hT,n1,n2,n3,n4⟩
 ·refine rK hty D.toApart5 hz Z.ti hTO Z.a1 Z.a2 Z.li hv hc λh' b1 b2 b3 b4 b5 b6 b7=>?_;exact hQ h' _ _ {.inr {_,_,_,b1,b5,lt hz,l1,l2,lt hod},b7 _ _ D.TIz D.TITO D.TIi1 D.TIi2 Z.ti,b3,b4,Z.li.at λo e=>b7 _ o D.lz D.lTO D.li1 D.li2 e} b5 (lt hod) b7
 refine rJ hty D.toApart5 hz hT Z.ti Z.a1 Z.a2 Z.li hv hc λh' b1 b3 b4 b5 b6 b7=>?_;exact hQ h' _ _ {.inr {T,_,oT,b1,b7 _ _ n1 n2 n3 hT,n1,n2,n3,n4},b7 _ _ D.TIz D.TIi1 D.TIi2 Z.ti,b3,b4,Z.li.at λo e=>b7 _ o D.lz D.li1 D.li2 e} b5 (lt hod) λc o c1 _ c3 c4 e=>b7 c o c1 c3 c4 e
theorem Ax {TI TO:Addr} {k:Nat} (hh:A.handled=none) (D:ApartD z TI TO i1 i2 l d)
  (Z:ZS s.heap z TI TO i1 i2 l d ty x t xs k) (hv:xs[k]?=none) (hQ:∀h',(∀c o,c≠z->c≠i1->s.heap.get? c=-o->h'.get? c=-o)->Q none { s with heap:=h' }):wpAny (model prog w) A (pyNext (.ref z)) Q E s:=by
 rcases Z.zf with⟨hz,a,b,hTO⟩|⟨T,f1,oT,hz,hT,n1,n2,n3,n4⟩
 ·exact qq (a:=a) (b:=b) hh D.toApart5 hz (.inl ⟨rfl,rfl,a,b,hTO⟩) Z.ti Z.a1 Z.li hv hQ
 exact qq (a:=.none) (b:=.none) hh D.toApart5 hz (.inr ⟨T,oT,rfl,hT⟩) Z.ti Z.a1 Z.li hv hQ
theorem ZS.dict {h h':Heap} {TI TO:Addr} {k:Nat} (D:ApartD z TI TO i1 i2 l d) (Z:ZS h z TI TO i1 i2 l d ty x t xs k) (hs:Heap.SameBut d h h'):ZS h' z TI TO i1 i2 l d ty x t xs k:=by
 refine{?_,hs.extBut _ _ D.dTI.symm Z.ti,Z.a1.extBut hs.extBut D.di1.symm,Z.a2.extBut hs.extBut D.di2.symm,Z.li.extBut hs.extBut D.dl.symm};rcases Z.zf with⟨hz,a,b,hTO⟩|⟨T,f1,oT,hz,hT,n1,n2,n3,n4⟩
 ·exact .inl {hs.extBut _ _ D.dz.symm hz,a,b,hs.extBut _ _ D.dTO.symm hTO}
 exact .inr {T,f1,oT,hs.extBut _ _ D.dz.symm hz,hs.extBut _ _ n4 hT,n1,n2,n3,n4}
def eE (kvs:List (K × Value)) (ps:List (K × Value)):List (K × Value):=ps.foldl (λacc p=>stored acc p.1 p.2) kvs
theorem jN (kvs:List (K × Value)) (k:K) (v:Value):(stored kvs k v).length<=kvs.length+1:=by
 unfold stored
 split
 ·rw[Qa];exact D3
 rw[Qk];simp
theorem vb (hty:ty = "str_ascii_iterator" \/ ty = "str_iterator") {TI TO:Addr} (D:ApartD z TI TO i1 i2 l d) (hh:A.handled=none) (ks:Nat->K) (hk:∀k v,xs[k]?=-v->knd.is (ks k) v=true)
  (hlen:xs.size<=x.cps.size) (hsz:xs.size<=sizeLine):∀(m k:Nat) (i:Int) (s:Shared) (kvs:List (K × Value)),xs.size-k=m->k<=xs.size->ZS s.heap z TI TO i1 i2 l d ty x t xs k->s.heap.DictOf knd d kvs->kvs.length<=k ->
  (∀h' tk (ps:List (K × Value)),ps.length=xs.size-k->(∀(j:Nat) p,ps[j]?=-p->p.1=ks (k+j)/\∃c u,x.cps[k+j]?=-c/\p.2=.str {#[c]} u)->h'.DictOf knd d (eE kvs ps) ->
   (∀c o,c≠z->c≠TO->c≠i1->c≠i2->c≠d->s.heap.get? c=-o->h'.get? c=-o)->R (.ok (.ret .none)) { s with heap:=h',toks:=tk }) ->
  codeAny (model prog w) A (.builtin "dict.update.loop" {[.ref d,.ref z,rawInt i,.none],[]}) R s:=by
 intro m
 induction m with
 | zero =>
  intro k i s kvs hm hkk Z hd hkl hR;have hin:k=xs.size:=by exact zZ hm hkk
  refine Xu gz ?_;rw[Xh cV _];show wpAny _ A.in1 (pyNext (.ref z) >>= _) _ _ s;refine Qb (Ax (show A.in1.handled=none from hh) D Z (by rw[hin];simp) λh' hkeep=>?_);show wpAny _ _ (Builtin.Dict.addKeywords d [] >>= _) _ _ _;refine Qb (Qf (Qf ?_));have hdn:d≠z:=D.dz
  have hd':h'.DictOf knd d kvs:=by
   obtain⟨o,es,ep,e1,r⟩:=hd;exact{o,es,ep,hkeep d o D.dz D.di1 e1,r}
  exact hR h' s.toks [] (by simp;exact D2 hm) (λj p e=>by simp at e) hd' λc o c1 _ c3 _ _ e=>hkeep c o c1 c3 e
 | succ m ih =>
 intro k i s kvs hm hkk Z hd hkl hR;have hlt:k<xs.size:=by exact zY hm hkk
 have hv:xs[k]?=some xs[k]:=by simp[hlt]
 have hltc:k<x.cps.size:=by exact Ab hlen hlt
 have hc:x.cps[k]?=some x.cps[k]:=by simp[hltc]
 obtain⟨od,es0,ep0,hod,_⟩:=id hd;refine Xu gz ?_;rw[Xh cV _];show wpAny _ A.in1 (pyNext (.ref z) >>= _) _ _ s;refine Qb (xJ hty D Z hod hv hc λh1 T u Z1 hT hTd hkeep=>?_)
 have hd1:h1.DictOf knd d kvs:=by
  obtain⟨o,es,ep,e1,r⟩:=hd;exact{o,es,ep,hkeep d o D.dz D.dTO D.di1 D.di2 e1,r}
 refine Qb (Q3 ?_);have hTy:(Shared.TypeIs { s with heap:=h1,toks:=s.toks+1 } (.ref T) "tuple"):=⟨_,hT,rfl⟩;refine Qb (wpAny_tryCatch ?_);unfold Builtin.Dict.pairItems;refine Qb (wpAny_typeOf hTy ?_);rw[QF (by decide)];refine Qb (wpAny_seqItems hT rfl (Qf ?_));show wpAny _ _ (holding [xs[k],_] (dictSet d xs[k] _)) _ _ _;refine Q3 (wpAny_dictSet_pairs (hk k _ hv) hd1 (λh2 hd2 hs2=>?_) ⇑(zX hsz hkl hlt));refine Qf {plainId_quiet cV _,ih (k+1) (i+1) _ _ ⇑(zW hm hlt) ⇑(zV hlt) (ZS.dict D Z1 hs2) hd2 (QY (jN _ _ _) ⇑(uE hkl)) λh3 tk ps hl hp hd3 hk3=>?_};refine hR h3 tk ((ks k,.str {#[x.cps[k]]} u)::ps) (by rw[QT,hl];exact D0 hm hlt) (λj p e=>?_) hd3 λc o c1 c2 c3 c4 c5 e=>hk3 c o c1 c2 c3 c4 c5 (hs2.extBut c o c5 (hkeep c o c1 c2 c3 c4 e))
 cases j with
 | zero =>
  have e':(ks k,Value.str {#[x.cps[k]]} u)=p:=by simpa using e
  subst e';exact{rfl,x.cps[k],u,hc,rfl}
 | succ j =>
 have q:=hp j p (~~~e);rw[show k+(j+1)=k+1+j by exact DZ];exact q
theorem gM (a:Value) {Q:J0} (h:Q (.ref s.heap.objs.size) { s with heap:=s.heap.push { cls:=.type "dict", data:=.dict #[] } }) :
  codeAny (model prog w) A (.call (.builtin "dict.__new__") {[.type "dict", a],[]}) (wants Q E) s:=by
 refine codeAny_call_builtin kr kY (wpAny_of_eq (kD a) ?_);have hsub:=vD;have hmro:=kH;obtain⟨hp,g,d,tk,os⟩:=s;unfold Builtin.«dict.__new__»
 wp_walk
 exact h
theorem vg (hty:ty = "str_ascii_iterator" \/ ty = "str_iterator") {TI TO:Addr} {Q:J0} (D:Apart5 z TI TO i1 i2 l) (hh:A.handled=none) (ks:Nat->K)
  (hk:∀k v,xs[k]?=-v->knd.is (ks k) v=true) (hlen:xs.size<=x.cps.size) (hsz:xs.size<=sizeLine) (hz:IsZ s.heap z TI TO .none false) (hTI:IsPair s.heap TI (.ref i1) (.ref i2)) (hTO:∃a b,IsPair s.heap TO a b)
  (h1:s.heap.IsListIter i1 l 0) (h2:s.heap.IsStrIter i2 ty x t 0) (hl:s.heap.IsList l xs)
  (h:∀h' tk (ps:List (K × Value)),ps.length=xs.size->(∀(j:Nat) p,ps[j]?=-p->p.1=ks j/\∃c u,x.cps[j]?=-c/\p.2=.str {#[c]} u)->h'.DictOf knd s.heap.objs.size (eE [] ps) ->
   (∀c o,c≠z->c≠TO->c≠i1->c≠i2->s.heap.get? c=-o->h'.get? c=-o)->Q (.ref s.heap.objs.size) { s with heap:=h',toks:=tk }) :
  wpAny (model prog w) A (call (.type "dict") [.ref z]) Q E s:=by
 refine callType_codes (Q₁:=λobj s1=>obj=.ref s.heap.objs.size/\s1={ s with heap:=s.heap.push { cls:=.type "dict", data:=.dict #[] } }) jj (fO _) F.entry_dict_init (gM _ ⟨rfl,rfl⟩) ?_;rintro obj s1 ⟨rfl,rfl⟩;have up:∀c o,s.heap.get? c=-o->(s.heap.push { cls:=.type "dict", data:=.dict #[] }).get? c=-o:=λc o e=>Qd _ e;have hnew:(s.heap.push { cls:=.type "dict", data:=.dict #[] }).DictOf knd s.heap.objs.size []:=Heap.DictOf.new s.heap;have lt:∀{c o},s.heap.get? c=-o->s.heap.objs.size≠c:=λe=>XG (Qm e);have l1:s.heap.objs.size≠i1:=by obtain⟨_,e,_⟩:=h1;exact lt e
 have l2:s.heap.objs.size≠i2:=by obtain⟨_,e,_⟩:=h2;exact lt e
 have ll:s.heap.objs.size≠l:=by obtain⟨_,e,_⟩:=hl;exact lt e
 obtain⟨a0,b0,hTO'⟩:=hTO;have DD:ApartD z TI TO i1 i2 l s.heap.objs.size:={D,lt hz,lt hTI,lt hTO',l1,l2,ll};refine{hnew.typeIs,F.args_dict_init_2 _ _,?_};unfold Builtin.«dict.__init__»;refine Qb ?_;unfold Builtin.Dict.selfAndRest;refine Qb (wpAny_notOrdered_dict hnew.typeIs ?_);show wpAny _ _ (pure (s.heap.objs.size,[Value.ref z])) _ _ _;refine Qf ?_;show wpAny _ _ (Builtin.Dict.updateFrom "dict.__init__" s.heap.objs.size (.ref z) [] .none) _ _ _;unfold Builtin.Dict.updateFrom;have hzT:Shared.TypeIs { s with heap:=s.heap.push { cls:=.type "dict", data:=.dict #[] } } (.ref z) "zip" := {_,up _ _ hz,rfl};refine Qb (wpAny_typeOf hzT ?_);rw[QF (by decide)];refine Qb (uT (up _ _ hz) (show A.in1.in1.handled=none from hh) λh3 tk k3=>?_);simp only[Option.isNone_none,if_true];refine Qb (XU ?_);have hz3:IsZ h3 z TI TO .none false:=k3 _ _ (up _ _ hz);refine Qb (wpAny_pyIter_zip (z:=z) (TI:=TI) (TO:=TO) (f0:=.none) hz3 ?_);refine Qf {plainId_quiet cV _,?_};have Z3:ZS h3 z TI TO i1 i2 l s.heap.objs.size ty x t xs 0:={.inl {hz3,a0,b0,k3 _ _ (up _ _ hTO')},k3 _ _ (up _ _ hTI),h1.at λo e=>k3 _ o (up _ o e),(let ⟨o,e,r⟩:=h2;{o,k3 _ o (up _ o e),r}),hl.at λo e=>k3 _ o (up _ o e)}
 have hd3:h3.DictOf knd s.heap.objs.size []:=by
  obtain⟨o,es,ep,e1,r⟩:=hnew;exact{o,es,ep,k3 _ _ e1,r}
 refine vb hty DD (show A.in1.handled=none from hh) ks hk hlen hsz xs.size 0 0 _ [] (by simp) (QB _) Z3 hd3 (Qh _) λh4 tk4 ps hp1 hp2 hd4 hk4=>?_;refine{rfl,h h4 tk4 ps (~~~hp1) (λj p e=>by simpa using hp2 j p e) hd4 λc o c1 c2 c3 c4 e=>hk4 c o c1 c2 c3 c4 (lt e).symm (k3 _ _ (up _ _ e))}
end
end LZ
namespace L2
open PySem PySem.Spec PyProof.Rows
def bB (kvs:List (Key × V)):List (Key × V)->List (Key × V)
 | []=>kvs
 | p::r=>bB (ca kvs p.1 p.2) r
def c8 (ns:List Str) (z:Str):List (Key × V):=(ns.zipIdx).map λp=>(Sum.inr p.1,fQ z p.2)
theorem rW:∀{qs:List (Key × V)} {ps:List (Key × Value)} {kvs:List (Key × V)} {vs:List (Key × Value)},KV qs ps->KV kvs vs->KV (bB kvs qs) (LZ.eE vs ps)
 | [],_,_,_,h,r=>by cases h;exact r
 | q::qs,p::ps,kvs,vs,h,r=>by
  cases h with
  | cons h1 h2 =>
  show KV (bB (ca kvs q.1 q.2) qs) (LZ.eE (stored vs p.1 p.2) ps);rw[<-h1.1];exact rW h2 (r.put q.1 h1.2)
theorem paired_get {α β:Type} {F:α->β->Prop}:∀{xs:List α} {ys:List β},xs.length=ys.length->(∀(j:Nat) x y,xs[j]?=-x->ys[j]?=-y->F x y)->Paired F xs ys
 | [],[],_,_=>.nil
 | x::xs,y::ys,hl,h=>.cons (h 0 x y rfl rfl) (paired_get (~~~hl) λj a b e1 e2=>h (j+1) a b (~~~e1) (~~~e2))
theorem fg:∀(qs kvs:List (Key × V)),(bB kvs qs).length<=kvs.length+qs.length
 | [],kvs=>Qh _
 | q::qs,kvs=>by
  have h1:=fg qs (ca kvs q.1 q.2);have h2:=eZ kvs q.1 q.2;show (bB (ca kvs q.1 q.2) qs).length<=_;rw[QT];exact Ef h1 h2
section
variable {X:Cx} {a b:Expr} {ta:TA} {p1 p2 pos1 pos2:Pos}
def BS (K:PySem.W.Frag) (ta:TA):TE:=λU H Q=>ta U H λvs H1=>∃l ns z,vs=[.ref l,.str z]/\SqL K H1 l (ns.map V.str)/\ns.length<=z.cps.size/\ns.length<1000/\∀d,H1 d=none->Q (.ref d) (upd H1 d (.dK (bB [] (c8 ns z))))
theorem tj (hc:X.calm=true) (hg:Gl X "dict") (hm:X.mg "dict" = none) (hg2:Gl X "zip") (hm2:X.mg "zip" = none) (ha:PA X [a,b] ta)
  (hs:starEach [a,b] X.env=[(false,eval a X.env),(false,eval b X.env)]:=by rfl) (hs2:starEach [b] X.env=[(false,eval b X.env)]:=by rfl)
  (hs0:starEach [.Call (.Name "zip" p2) [a,b] [] pos2] X.env=[(false,eval (.Call (.Name "zip" p2) [a,b] [] pos2) X.env)]:=by rfl) :
  PE X (.Call (.Name "dict" p1) [.Call (.Name "zip" p2) [a,b] [] pos2] [] pos1) (BS X.K ta):=by
 intro pins s U H Q I h;refine Call_ (d7 I hg hm PyProof.Rows.boot_dict (Xf ?_ hs0 rfl));rw[hs0];show wpAny _ _ (spliced [(false,eval (.Call (.Name "zip" p2) [a,b] [] pos2) X.env)]) _ _ s;refine Calls.spliced_cons ?_;refine Call_ (d7 I hg2 hm2 PyProof.Rows.boot_zip (Xf (thn (ha pos2 pins s U H _ I h) λus s1 ⟨vs,H1,I1,r1,q1⟩=>?_) (by rw[hs,hs2]) (by rw[hs2];rfl)));obtain⟨l,ns,z,e,hl,hlen,hsm,q⟩:=q1;subst e;obtain⟨u1,u2,e,ru1,ru2⟩:=sE r1;subst e;cases ru1;obtain⟨t,e⟩:=ru2;subst e;obtain⟨its,rv,pl,_⟩:=I1.list hl;have hits:its.length=ns.length:=by have:=rv.length;rw[Qa]at this;exact this.symm
 refine LZ.xD pl.isList λh2 b1 b2 b3 b4 b5 b6 b7=>?_;refine Calls.spliced_nil ?_;have I2:Inv X pins U H1 { s1 with heap:=h2 }:=I1.kept (t':=s1.toks) b7;have ltl:@LT.lt Nat _ l s1.heap.objs.size:=by obtain⟨o,ho,_⟩:=pl.isList;exact Qm ho
 have big:1000<sizeLine:=by decide
 refine LZ.vg (knd:=bq X.prog X.w) (LZ.xP z) (i1:=s1.heap.objs.size) (i2:=s1.heap.objs.size+1) (l:=l) (xs:=its.toArray) {(by show @Ne Nat _ _;exact Ee),(by show @Ne Nat _ _;exact Ed),(by show @Ne Nat _ _;exact Ec),(by show @Ne Nat _ _;exact Eb),(by show @Ne Nat _ _;exact Ea),(by show @Ne Nat _ _;exact D_),(by show @Ne Nat _ _;exact D9),(by show @Ne Nat _ _;exact D8),(by show @Ne Nat _ _;exact D7),(by show @Ne Nat _ _;exact D6),(by show @Ne Nat _ _;omega),(by show @Ne Nat _ _;omega),(by show @Ne Nat _ _;omega),(by show @Ne Nat _ _;omega)} (I.ok.hd hc) (λk=>Sum.inr (ns.getD k Str.empty)) (λk v hv=>?_)
  (by rw[Ql,hits];exact hlen) (by rw[Ql,hits];omega) b1 b2 ⟨_,_,b3⟩ b4 b5 (pl.isList.at λo e=>b7 _ o e) λh3 tk ps hp1 hp2 hd3 hk3=>?_
 ·have hv':its[k]?=-v:=by simpa using hv
  have hk:k<ns.length:=by have:=(Qe.mp hv').1;exact Be hits this
  have e1:(ns.map V.str)[k]?=-.str (ns.getD k Str.empty):=by
   rw[Qi,Qc hk,QU,Qc hk];rfl
  obtain⟨u,hu,ru⟩:=rv.get e1;rw[hv']at hu;cases hu;obtain⟨t',e⟩:=ru;subst e;exact gc _ _ _ _
 have hlenz:(c8 ns z).length=ns.length:=by unfold c8;simp
 have kv:KV (c8 ns z) ps:=by
  refine paired_get (by rw[hlenz,hp1,Ql,hits]) λj x y e1 e2=>?_;obtain⟨f1,c,u,f2,f3⟩:=hp2 j y e2;unfold c8 at e1;rw[Qi,List.getElem?_zipIdx]at e1
  cases e:ns[j]? with
  | none=>rw[e]at e1;simp at e1
  | some n =>
  rw[e]at e1;simp at e1;subst e1;refine{?_,?_}
  ·rw[f1];show (Sum.inr n:Key)=Sum.inr (ns.getD j Str.empty);rw[QU,e];rfl
  rw[f3];refine{u,?_};show Value.str {#[c]} u=Value.str {#[z.cps.getD j 0]} u;rw[Array.getD_eq_getD_getElem?,f2];rfl
 have hnew:H1 h2.objs.size=none:=I2.hok.fresh (Qh _)
 have kept:∀c o,s1.heap.get? c=-o->h3.get? c=-o:=λc o e=>by
  have:@LT.lt Nat _ c s1.heap.objs.size:=Qm e;exact hk3 c o (by show @Ne Nat _ _;omega) (by show @Ne Nat _ _;omega) (by show @Ne Nat _ _;omega) (by show @Ne Nat _ _;omega) (b7 c o e)
 have hle:s1.heap.objs.size<=h2.objs.size:=by exact D5 b6
 have I3:Inv X pins U (upd H1 h2.objs.size (.dK (bB [] (c8 ns z)))) { s1 with heap:=h3,toks:=tk }:=I1.laid kept hle {by
   have:=fg (c8 ns z) [];rw[hlenz]at this;simp only[List.length_nil]at this
   omega,beq_eq_false_iff_ne.mpr (by
   have:@LT.lt Nat _ sysModules s1.heap.objs.size:=I1.big;intro e;have e':@Eq Nat h2.objs.size sysModules:=e
   omega),_,rW kv .nil,hd3}
 exact{.ref h2.objs.size,_,I3,rfl,q _ hnew}
end
end L2
namespace LZ
open PySem
section
variable {prog:Program} {w:World} {A:Around} {E:J0} {s:Shared}
theorem ir:typeLookup (.type "list") "__getattr__" = pure none:=by rw[typeLookup_type,XQ];kernel_rfl
theorem kO:typeLookup (.type "list") "keys" = pure none:=by rw[typeLookup_type,XQ];kernel_rfl
theorem fz:entryFor table "list.__getattribute__" = some Builtin.«object.__getattribute__» :=
 entryFor_alias (id' := "object.__getattribute__") (by kernel_rfl) (by decide +kernel) (by decide +kernel) (by kernel_rfl)
theorem js (a:Addr) (xs:Array Value) (m:Nat) (sl:Array (Option Value)) (u:Tok) :
  Meets (Builtin.«object.__getattribute__» {[.ref a,.str "keys" u],[]}) (λA R s=>s.heap.get? a=some { cls:=.type "list", dict:=none,data:=.seq xs m,slots:=sl }/\raisesAttr (.ref a) "keys" A R s) :=
 Meets.of_wp λprog w A R s hs=>by
  obtain⟨hp,g,d,tk,os⟩:=s;obtain⟨hx,hs⟩:=hs;have hT:(⟨hp,g,d,tk,os⟩:Shared).TypeIs (.ref a) "list" := ⟨_,hx,rfl⟩;have hmiss:=kO;have hname:(["__module__", "__name__", "__qualname__", "__doc__", "__annotations__"]:List Str).contains "keys" = false:=by decide +kernel
  unfold Builtin.«object.__getattribute__»
  repeat (any_goals (first|assumption|wp_step))
  try simp only[hname,QW,if_false]
  repeat (any_goals (first|assumption|wp_step))
  exact wpAny_raiseAttrError hs.1 hs.2 (attrMsg_fits (by decide +kernel) (by decide +kernel))
theorem rX {a:Addr} {xs:Array Value} {m:Nat} {sl:Array (Option Value)} {Q:Option Value->Shared->Prop} (hx:s.heap.get? a=some { cls:=.type "list", dict:=none,data:=.seq xs m,slots:=sl }) (hA:A.handled=none)
  (h:∀h' tk,(∀c o,s.heap.get? c=-o->h'.get? c=-o)->Q none { s with heap:=h',toks:=tk }):wpAny (model prog w) A (getAttr? (.ref a) "keys") Q E s:=by
 obtain⟨hp,g,d,tk,os⟩:=s;have hT:∀tk',(⟨hp,g,d,tk',os⟩:Shared).TypeIs (.ref a) "list" := λ_=>⟨_,hx,rfl⟩;have f1:=sub_AttributeError;have f3:=F.slot_list_getattribute.lookup;have f4:=F.slot_list_getattribute.bind (.ref a);have f5:=ir;unfold getAttr? getAttrBy? getAttrBy
 repeat (any_goals (first|assumption|exact hT _|((with_reducible show wpAny _ _ (call (Value.builtin "list.__getattribute__") _ _) _ _ _);refine call_meets F.slot_list_getattribute (hT _) fz (F.args_list_getattribute_2 _ _) (js a xs m sl _) {hx,hA,λh' tk' e hx'=>?_})|wp_step))
 obtain⟨t',u',he⟩:=hx'.there;show wpAny _ _ (getattributeRaised _ _ _ _ _ _ _) _ _ _;unfold getattributeRaised
 repeat (any_goals (first|assumption|wp_step))
 all_goals exact h _ _ hx'.keeps
end
section
variable {prog:Program} {w:World} {K:Type} [DecidableEq K] {knd:KeyKind prog w K} {A:Around} {R:Result->Shared->Prop}
def jJ (h:Heap) (xs:Array Value) (ka va:Nat->Value) (it d:Addr):Prop:=∀k,k<xs.size->∃(T:Addr) (o:Obj) (n:Nat),xs[k]?=-.ref T/\h.get? T=-o/\o.cls=.type "tuple" /\ o.data=.seq #[ka k,va k] n/\T≠it/\T≠d
theorem jJ.keep {h h':Heap} {xs:Array Value} {ka va:Nat->Value} {it d:Addr} (p:jJ h xs ka va it d) (hk:∀c o,c≠it->c≠d->h.get? c=-o->h'.get? c=-o):jJ h' xs ka va it d:=λk hlt =>
 let ⟨T,o,n,e1,e2,e3,e4,e5,e6⟩:=p k hlt;{T,o,n,e1,hk T o e5 e6 e2,e3,e4,e5,e6}
theorem sj {it l d:Addr} {xs:Array Value} {ka va:Nat->Value} (nid:d≠it) (nil:l≠it) (ndl:l≠d) (hh:A.handled=none) (ks:Nat->K) (hk:∀k,k<xs.size->knd.is (ks k) (ka k)=true) (hsz:xs.size<=sizeLine) :
  ∀(m k:Nat) (i:Int) (s:Shared) (kvs:List (K × Value)),xs.size-k=m->k<=xs.size->s.heap.IsListIter it l k->s.heap.IsList l xs->jJ s.heap xs ka va it d->s.heap.DictOf knd d kvs->kvs.length<=k ->
  (∀h' tk,h'.DictOf knd d (eE kvs ((List.range (xs.size-k)).map λj=>(ks (k+j),va (k+j))))->(∀c o,c≠it->c≠d->s.heap.get? c=-o->h'.get? c=-o)->R (.ok (.ret .none)) { s with heap:=h',toks:=tk }) ->
  codeAny (model prog w) A (.builtin "dict.update.loop" {[.ref d,.ref it,rawInt i,.none],[]}) R s:=by
 intro m
 induction m with
 | zero =>
  intro k i s kvs hm hkk hit hl hp hd hkl hR;have hin:k=xs.size:=by exact zZ hm hkk
  refine Xu gz ?_;rw[Xh cV _];show wpAny _ A.in1 (pyNext (.ref it) >>= _) _ _ s;refine Qb (wpAny_pyNext_list_end (show A.in1.handled=none from hh) hit hl (by rw[hin];simp) λh' hkeep=>?_);show wpAny _ _ (Builtin.Dict.addKeywords d [] >>= _) _ _ _;refine Qb (Qf (Qf ?_))
  have hd':h'.DictOf knd d kvs:=by
   obtain⟨o,es,ep,e1,r⟩:=hd;exact{o,es,ep,hkeep d o nid e1,r}
  refine hR h' s.toks ?_ λc o c1 _ e=>hkeep c o c1 e;rw[hm];exact hd'
 | succ m ih =>
 intro k i s kvs hm hkk hit hl hp hd hkl hR;have hlt:k<xs.size:=by exact zY hm hkk
 obtain⟨T,oT,n,hx,hT,hTc,hTd,nTi,nTd⟩:=hp k hlt;refine Xu gz ?_;rw[Xh cV _];show wpAny _ A.in1 (pyNext (.ref it) >>= _) _ _ s;refine Qb (wpAny_pyNext_list_item hit hl hx λh1 hit1 hs1=>?_);have k1:∀c o,c≠it->s.heap.get? c=-o->h1.get? c=-o:=λc o n1 e=>hs1.extBut c o n1 e
 have hd1:h1.DictOf knd d kvs:=by
  obtain⟨o,es,ep,e1,r⟩:=hd;exact{o,es,ep,k1 d o nid e1,r}
 have hT1:=k1 T oT nTi hT;refine Qb (Q3 ?_);have hTy:(Shared.TypeIs { s with heap:=h1 } (.ref T) "tuple"):=⟨_,hT1,hTc⟩;refine Qb (wpAny_tryCatch ?_);unfold Builtin.Dict.pairItems;refine Qb (wpAny_typeOf hTy ?_);rw[QF (by decide)];refine Qb (wpAny_seqItems hT1 hTd (Qf ?_));show wpAny _ _ (holding [ka k,va k] (dictSet d (ka k) (va k))) _ _ _;refine Q3 (wpAny_dictSet_pairs (hk k hlt) hd1 (λh2 hd2 hs2=>?_) ⇑(zX hsz hkl hlt));have k2:∀c o,c≠it->c≠d->s.heap.get? c=-o->h2.get? c=-o:=λc o n1 n2 e=>hs2.extBut c o n2 (k1 c o n1 e);refine Qf {plainId_quiet cV _,ih (k+1) (i+1) _ _ ⇑(zW hm hlt) ⇑(zV hlt) (hit1.extBut hs2.extBut (XJ nid)) (hl.at λo e=>k2 l o nil ndl e) (hp.keep k2) hd2 (QY (jN _ _ _) ⇑(uE hkl)) λh3 tk hd3 hk3=>?_};refine hR h3 tk ?_ λc o c1 c2 e=>hk3 c o c1 c2 (k2 c o c1 c2 e);rw[show xs.size-k=(xs.size-(k+1))+1 from by exact DY hm hlt,List.range_succ_eq_map,QN,QR];have e:(List.range (xs.size-(k+1))).map (λj=>(ks (k+1+j),va (k+1+j)))=(List.range (xs.size-(k+1))).map ((λj=>(ks (k+j),va (k+j)))∘Nat.succ):=List.map_congr_left λj _=>by simp[Function.comp,Nat.add_assoc,Nat.add_comm 1]
 rw[e]at hd3;exact hd3
variable {Q E:J0}
theorem sC {s:Shared} {l:Addr} {xs:Array Value} {ka va:Nat->Value} (hh:A.handled=none) (ks:Nat->K) (hk:∀k,k<xs.size->knd.is (ks k) (ka k)=true) (hsz:xs.size<=sizeLine) (hl:PlainL s.heap l xs)
  (hp:∀k,k<xs.size->∃(T:Addr) (o:Obj) (n:Nat),xs[k]?=-.ref T/\s.heap.get? T=-o/\o.cls=.type "tuple" /\ o.data=.seq #[ka k,va k] n)
  (h:∀h' tk,h'.DictOf knd s.heap.objs.size (eE [] ((List.range xs.size).map λj=>(ks j,va j)))->(∀c o,s.heap.get? c=-o->h'.get? c=-o)->Q (.ref s.heap.objs.size) { s with heap:=h',toks:=tk }) :
  wpAny (model prog w) A (call (.type "dict") [.ref l]) Q E s:=by
 refine callType_codes (Q₁:=λobj s1=>obj=.ref s.heap.objs.size/\s1={ s with heap:=s.heap.push { cls:=.type "dict", data:=.dict #[] } }) jj (fO _) F.entry_dict_init (gM _ ⟨rfl,rfl⟩) ?_;rintro obj s1 ⟨rfl,rfl⟩;have up:∀c o,s.heap.get? c=-o->(s.heap.push { cls:=.type "dict", data:=.dict #[] }).get? c=-o:=λc o e=>Qd _ e;have hnew:(s.heap.push { cls:=.type "dict", data:=.dict #[] }).DictOf knd s.heap.objs.size []:=Heap.DictOf.new s.heap;have lt:∀{c o},s.heap.get? c=-o->s.heap.objs.size≠c:=λe=>XG (Qm e);obtain⟨⟨c0,d0,dt0,sl0⟩,n0,ho,hoc,hod,hos⟩:=hl;have hoc:c0=.type "list" := hoc;have hod:d0=none:=hod;have hos:dt0=.seq xs n0:=hos;subst hoc hod hos;refine{hnew.typeIs,F.args_dict_init_2 _ _,?_};unfold Builtin.«dict.__init__»;refine Qb ?_;unfold Builtin.Dict.selfAndRest;refine Qb (wpAny_notOrdered_dict hnew.typeIs ?_);show wpAny _ _ (pure (s.heap.objs.size,[Value.ref l])) _ _ _;refine Qf ?_;show wpAny _ _ (Builtin.Dict.updateFrom "dict.__init__" s.heap.objs.size (.ref l) [] .none) _ _ _;unfold Builtin.Dict.updateFrom;have hzT:Shared.TypeIs { s with heap:=s.heap.push { cls:=.type "dict", data:=.dict #[] } } (.ref l) "list" := {_,up _ _ ho,rfl};refine Qb (wpAny_typeOf hzT ?_);rw[QF (by decide)];refine Qb (rX (up _ _ ho) (show A.in1.in1.handled=none from hh) λh3 tk k3=>?_);simp only[Option.isNone_none,if_true];refine Qb (XU ?_);have hL3:h3.IsList l xs:={_,k3 _ _ (up _ _ ho),rfl,n0,rfl}
 have hd3:h3.DictOf knd s.heap.objs.size []:=by
  obtain⟨o,es,ep,e1,r⟩:=hnew;exact{o,es,ep,k3 _ _ e1,r}
 obtain⟨od,es,ep,hd3',r3⟩:=id hd3;refine Qb (wpAny_pyIter_list hL3 ?_);refine Qf {plainId_quiet cV _,?_};have up4:∀c o,h3.get? c=-o->(h3.push { cls:=.type "list_iterator", data:=.fields #[.ref l,.int 0 0] }).get? c=-o:=λc o e=>Qd _ e;have lt3:∀{c o},h3.get? c=-o->c≠h3.objs.size:=λe=>Qz (Qm e);refine sj (it:=h3.objs.size) (l:=l) (d:=s.heap.objs.size) (ka:=ka) (va:=va) (lt3 hd3') (lt3 (k3 _ _ (up _ _ ho))) (lt ho).symm (show A.in1.handled=none from hh) ks hk hsz xs.size 0 0 _ [] (by simp) (QB _) {_,Qr _ rfl,rfl,rfl} (hL3.at λo e=>up4 _ o e) (λk hlt=>?_) {od,es,ep,up4 _ _ hd3',r3} (Qh _) λh5 tk5 hd5 hk5=>?_
 ·obtain⟨T,o,n,e1,e2,e3,e4⟩:=hp k hlt;exact{T,o,n,e1,up4 _ _ (k3 _ _ (up _ _ e2)),e3,e4,lt3 (k3 _ _ (up _ _ e2)),(lt e2).symm}
 refine{rfl,h h5 tk5 (~~~hd5) λc o e=>hk5 c o (lt3 (k3 _ _ (up _ _ e))) (lt e).symm (up4 _ _ (k3 _ _ (up _ _ e)))}
end
end LZ
namespace L2
open PySem PySem.Spec PyProof.Rows
def qR (H:Hp) (v:V) (p:Str × V):Prop:=∃b,v=.ref b/\H b=-.tup [.str p.1,p.2]
def cH (ps:List (Str × V)):List (Key × V):=ps.map λp=>((Sum.inr p.1:Key),p.2)
section
variable {X:Cx} {a:Expr} {ta:TA} {p1 pos1:Pos}
def sJ (K:PySem.W.Frag) (ta:TA):TE:=λU H Q=>ta U H λvs H1=>∃l xs ps,vs=[.ref l]/\SqL K H1 l xs/\xs.length<10000/\Paired (qR H1) xs ps/\∀d,H1 d=none->Q (.ref d) (upd H1 d (.dK (bB [] (cH ps))))
theorem zu {H:Hp}:∀{xs:List V} {ps:List (Str × V)},Paired (qR H) xs ps->∀(j:Nat) x,xs[j]?=-x->∃y,ps[j]?=-y/\qR H x y
 | _,_,.nil=>λj x e=>by simp at e
 | _,_,.cons (a:=a) (b:=b) h t=>λj x e=>by
  cases j with
  | zero=>simp at e;subst e;exact⟨_,rfl,h⟩
  | succ j=>simp at e;obtain⟨y,e',f⟩:=zu t j x e;exact{y,~~~e',f}
theorem vZ {H:Hp}:∀{xs:List V} {ps:List (Str × V)},Paired (qR H) xs ps->xs.length=ps.length
 | _,_,.nil=>rfl
 | _,_,.cons h t=>by simp[vZ t]
theorem eF (hc:X.calm=true) (hg:Gl X "dict") (hm:X.mg "dict" = none) (ha:PA X [a] ta) (hs:starEach [a] X.env=[(false,eval a X.env)]:=by rfl):PE X (.Call (.Name "dict" p1) [a] [] pos1) (sJ X.K ta):=by
 intro pins s U H Q I h;refine Call_ (d7 I hg hm PyProof.Rows.boot_dict (Xf (thn (ha pos1 pins s U H _ I h) λus s1 ⟨vs,H1,I1,r1,q1⟩=>?_) hs rfl));obtain⟨l,xs,ps,e,hl,hsm,hpr,q⟩:=q1;subst e;obtain⟨u1,e,ru1⟩:=d8 r1;subst e;cases ru1;obtain⟨its,rv,pl,_⟩:=I1.list hl;have hits:its.length=xs.length:=rv.length.symm;have hps:=vZ hpr;have big:10000<sizeLine:=by decide
 have each:∀k,∃g:Value × Value × Str,k<its.length->∃(T:Addr) (o:Obj) (m:Nat) (v:V) (t:Tok),its[k]?=-.ref T/\s1.heap.get? T=-o/\o.cls=.type "tuple" /\ o.data=.seq #[g.1,g.2.1] m/\g.1=.str g.2.2 t/\ps[k]?=-(g.2.2,v)/\aY v g.2.1:=λk=>by
  by_cases hk:k<its.length
  ·have hx:xs[k]?=-(xs[k]'(⇑(om3 hits hps hk))):=by simp
   obtain⟨y,hy,b,eb,hb⟩:=zu hpr k _ hx;obtain⟨u,hu,ru⟩:=rv.get hx;rw[eb]at ru;cases ru;obtain⟨its2,rv2,⟨o,e1,e2,n,e3⟩,_⟩:=I1.tuple (SqT.of hb);obtain⟨w1,w2,e4,r1,r2⟩:=sE rv2;subst e4;obtain⟨t,et⟩:=r1;subst et;exact{(.str y.1 t,w2,y.1),λ_=>⟨b,o,n,y.2,t,hu,e1,e2,e3,rfl,hy,r2⟩}
  exact{(.none,.none,Str.empty),λh=>absurd h hk}
 let g:=λk=>Classical.choose (each k);have hg':∀k,k<its.length->∃(T:Addr) (o:Obj) (m:Nat) (v:V) (t:Tok),its[k]?=-.ref T/\s1.heap.get? T=-o/\o.cls=.type "tuple" /\ o.data=.seq #[(g k).1,(g k).2.1] m/\(g k).1=.str (g k).2.2 t/\ps[k]?=-((g k).2.2,v)/\aY v (g k).2.1:=λk=>Classical.choose_spec (each k);refine LZ.sC (knd:=bq X.prog X.w) (l:=l) (xs:=its.toArray) (ka:=λk=>(g k).1) (va:=λk=>(g k).2.1) (I1.ok.hd hc) (λk=>(Sum.inr (g k).2.2:Key)) (λk hk=>?_) (by rw[Ql,hits];omega) pl (λk hk=>?_) λh3 tk hd3 kept=>?_
 ·rw[Ql]at hk;obtain⟨T,o,m,v,t,_,_,_,_,e5,_⟩:=hg' k hk;show (bq X.prog X.w).is _ (g k).1=true;rw[e5];exact gc _ _ _ _
 ·rw[Ql]at hk;obtain⟨T,o,m,v,t,e1,e2,e3,e4,_⟩:=hg' k hk;exact{T,o,m,~~~e1,e2,e3,e4}
 rw[Ql]at hd3
 have kv:KV (cH ps) ((List.range its.length).map λj=>((Sum.inr (g j).2.2:Key),(g j).2.1)):=by
  unfold cH;refine paired_get (by simp[hits,hps]) λj x y e1 e2=>?_;rw[Qi]at e1 e2
  have hj:j<its.length:=by
   cases e:(List.range its.length)[j]? with
   | none=>rw[e]at e2;cases e2
   | some q=>have:=(Qe.mp e).1;simpa using this
  obtain⟨T,o,m,v,t,_,_,_,_,_,e6,e7⟩:=hg' j hj;rw[e6]at e1;rw[List.getElem?_range hj]at e2;cases e1;cases e2;exact⟨rfl,e7⟩
 have hnew:H1 s1.heap.objs.size=none:=I1.hok.fresh (Qh _)
 have I3:Inv X pins U (upd H1 s1.heap.objs.size (.dK (bB [] (cH ps)))) { s1 with heap:=h3,toks:=tk }:=I1.laid kept (Qh _) {by
   have:=fg (cH ps) [];have e:(cH ps).length=ps.length:=by unfold cH;simp
   simp only[List.length_nil]at this
   omega,beq_eq_false_iff_ne.mpr (by
   have:@LT.lt Nat _ sysModules s1.heap.objs.size:=I1.big;intro e;have e':@Eq Nat s1.heap.objs.size sysModules:=e
   omega),_,rW kv .nil,hd3}
 exact{.ref s1.heap.objs.size,_,I3,rfl,q _ hnew}
end
section
variable {X:Cx} {o e:Expr} {apos cpos:Pos} {ty:TE} {T:Addr}
end
section
variable {K:PySem.W.Frag} {g:TG} {te:TE} {σ0:St} {QD:Hp->Prop} {H1:Hp} {D:Addr}
end
section
variable {X:Cx}
def BJ (K:PySem.W.Frag) (te:TE):TE:=λU H Q=>te U H λx H1=>∃a xs,x=.ref a/\SqL K H1 a xs/\∀p,H1 p=none->Q (.ref p) (upd H1 p (.lst xs.reverse))
theorem AT {e st:Expr} {te ts:TE} {p2 pos:Pos} (he:PE X e te) (hst:PE X st ts) (h1:∀U H (Q:VK),Q (.int ((unop% Neg.neg 1))) H->ts U H Q):PE X (.Subscript e (.Slice none none (-st) p2) pos) (BJ X.K te):=by
 intro pins s U H Q I h;refine Subscript_ (thn (he pins s U H _ I h) λv s1 ⟨x,H1,I1,r1,q1⟩=>?_);refine wpAny_Slice ?_;rw[evalPart_none];refine Qf ?_;refine Qf ?_;rw[evalPart_some];refine thn (hst pins s1 U H1 (λy H2=>y=.int ((unop% Neg.neg 1))/\H2=H1) I1 (h1 _ _ _ ⟨rfl,rfl⟩)) λvk s3 ⟨y,H3,I3,r3,e1,e2⟩=>?_;subst e1 e2;obtain⟨t,rfl⟩:=r3;obtain⟨a,xs,rfl,hx,q⟩:=q1;cases r1;have I4:Inv X pins U H3 { s3 with heap:=s3.heap.push { cls:=.type "slice", data:=.fields #[.none,.none,.int ((unop% Neg.neg 1)) t] } }:=I3.kept (t':=s3.toks) λb ob q=>Qd _ q;obtain⟨its,r,ht,hz⟩:=I4.list hx;have hlen:=r.length;refine tail_any (ops:=[.ref a,.ref s3.heap.objs.size]) ht.isList.typeIs slot_list_getitem.lookup ?_ (by with_unfolding_all rfl);refine wpAny_getItem_list_slice ht.isList (Heap.IsSliceOf.new ..) .none .none (.int _ _) (by decide) ?_ (by rw[Ql] <;> exact om4 hz hlen);rw[PySem.W.krv_pick];refine{.ref (s3.heap.push { cls:=.type "slice", data:=.fields #[.none,.none,.int ((unop% Neg.neg 1)) t] }).objs.size,_,I4.laid (t':=s3.toks) (o:=.lst xs.reverse) (λb ob q=>Qd _ q) (Qh _) ?_,rfl,q _ (I4.hok.fresh (Qh _))};exact{by rw[List.length_reverse];exact hz,_,0,r.reverse,Qr _ rfl}
end
section
variable {K:PySem.W.Frag} {g:TG} {te:TE} {tt:TT} {σ0:St} {QD:Hp->Prop} {H1:Hp} {D:Addr}
end
def zq (f:Addr) (l:Lm) (y:Str) (cell c:Addr) (t:TE):V->Hp->VK->Prop:=λvx H Q=>∃(o:Obj) (uy:Value) (vy:V),H f=-i5 f l [(y,cell)] c/\H c=-jm c l.qual/\H cell=-cT o/\o.data=.cell (-uy)/\aY vy uy /\
 t [-vx,-vy] (ed H cell) λv H'=>H' cell=none->Q v (upd H' cell (cT o))
theorem sr {P:Program} {w:World} {K:PySem.W.Frag} {mg:J6} {base:Heap} {x y:Str} {l:Lm} {f c cell:Addr} {k:Nat} {t:TE} (S:LmScope x y l.scope)
  (hb:∀(pm ctv u:Value),bindArgs (PySem.W.kla_fn "<lambda>" l.qual l.params l.body l.scope [(y,cell)] pm (.ref c) ctv) {[u],[]}=pure [(x,u)])
  (body:∀(A:Around) (outer:List Env) (s:Shared) (H:Hp),Room k (A.deeper (PySem.W.envX l.qual l.scope s.heap.objs.size f (.ref c) [(y,cell)]))->PE (tV P w K mg base x y l f c cell A outer s H E0) l.body t) :
  Calls P w K mg base (k+1) f (zq f l y cell c t):=by
 intro X e1 e2 e3 e4 e5 hx hr pins s U H vx u Q I rx h;subst e1 e2 e3 e4 e5;obtain⟨o,uy,vy,hf,hc,hcell,hd,ry,q⟩:=h;obtain⟨pm,ctv,ef⟩:=(I.hok f _ hf).1;have ec:s.heap.CodeRec (.ref c) l.qual:=(I.hok c _ hc).1;have eo:s.heap.get? cell=-o:=(I.hok cell _ hcell).1;have e0:=I.env0
 have nf:cell∉frs X.stack:=λz=>by
  have:=e0.frf cell z;rw[hcell]at this;cases this
 have e0':Env0 X.prog X.w X.K X.mg X.base X.A X.stack s (ed H cell):={e0.frames,e0.mod,λb ob e=>{(e0.bs b ob e).1,by
  by_cases z:b=cell
  ·rw[z];exact dP
  ·rw[bQ z];exact(e0.bs b ob e).2},e0.bsz,e0.funs,λb hb=>by
  by_cases z:b=cell
  ·rw[z];exact dP
  rw[bQ z];exact e0.frf b hb,e0.hok.drop hcell,e0.bare}
 refine wpAny_call (codeAny_mono (yF (E:=E0) S hr e0' rx ry ⟨o,eo,hd⟩ dP ef ec (hb pm ctv u) (body X.A X.stack s (ed H cell)) q) λr s' hq=>?_)
 cases r with
 | error e=>exact False.elim hq
 | ok fl =>
 cases fl with
 | ret u =>
  obtain⟨v,H',os,bare,un,hok,rv,qv⟩:=hq;obtain⟨un',n',e'⟩:=un.back hcell eo nf (by simp);exact I.after {v,_,os,bare,un',hok.take n' e',rv,qv n'}
 | next=>exact False.elim hq
 | brk=>exact False.elim hq
 | cont=>exact False.elim hq
end L2
namespace LR
open PySem
section
variable {prog:Program} {w:World} {A:Around} {E:J0} {s:Shared}
end
end LR
namespace L2
open PySem PySem.Spec PyProof.Rows
section
variable {X:Cx}
end
section
variable {X:Cx} {elts:List Expr} {k:Nat} {tpos:Pos}
end
section
variable {X:Cx}
end
section
variable {X:Cx} {elts:List Expr} {k:Nat} {tpos:Pos}
end
end L2
namespace Bf
section
variable {κ:Type} [DecidableEq κ]
def bo (w:List κ):List κ->List κ
 | []=>w
 | k::ks=>bo (if k∈w then w else w++[k]) ks
def bfs (nx:κ->List κ) (s:κ):Nat->List κ
 | 0=>[s]
 | n+1=>match (bfs nx s n)[n]? with
  | some h=>bo (bfs nx s n) (nx h)
  | none=>bfs nx s n
inductive Reach (nx:κ->List κ) (s:κ):κ->Prop
 | start:Reach nx s s
 | step {a b:κ}:Reach nx s a->b∈nx a->Reach nx s b
theorem dR:∀(ks w:List κ),w <+: bo w ks
 | [],w=>List.prefix_refl w
 | k::ks,w=>by
  unfold bo;refine List.IsPrefix.trans ?_ (dR ks _)
  split
  ·exact List.prefix_refl w
  exact List.prefix_append w [k]
theorem eV:∀(ks w:List κ) (x:κ),x∈bo w ks↔x∈w\/x∈ks
 | [],w,x=>by simp[bo]
 | k::ks,w,x=>by
  unfold bo;rw[eV ks]
  split
  ·rename_i h
   constructor
   ·rintro(q|q)
    ·exact .inl q
    exact .inr (Qx _ q)
   rintro(q|q)
   ·exact .inl q
   rcases QP.mp q with e|q
   ·subst e;exact .inl h
   exact .inr q
  rw[Qq,Qu,QP,or_assoc]
theorem eC:∀(ks w:List κ),w.Nodup->(bo w ks).Nodup
 | [],w,h=>h
 | k::ks,w,h=>by
  unfold bo;refine eC ks _ ?_
  split
  ·exact h
  rename_i hk
  rw[Xw];refine{h,by simp,λa ha b hb=>?_};rw[Qu]at hb;subst hb;intro e;subst e;exact hk ha
theorem mh (w ks ls:List κ):bo w (ks++ls)=bo (bo w ks) ls:=by
 induction ks generalizing w with
 | nil=>rfl
 | cons k ks ih=>exact ih _
variable {w xs ys:List κ}
theorem lH {k:κ} (h:k∈w):bo w [k]=w:=by simp[bo,h]
theorem lG {k:κ} (h:k∉w):bo w [k]=w++[k]:=by simp[bo,h]
variable {nx:κ->List κ} {s:κ}
variable {n i m:Nat}
theorem fB {h:κ} (e:(bfs nx s n)[n]?=-h):bfs nx s (n+1)=bo (bfs nx s n) (nx h):=by
 show (match (bfs nx s n)[n]? with|some h=>bo (bfs nx s n) (nx h)|none=>bfs nx s n)=_;rw[e]
theorem gi (e:(bfs nx s n)[n]?=none):bfs nx s (n+1)=bfs nx s n:=by
 show (match (bfs nx s n)[n]? with|some h=>bo (bfs nx s n) (nx h)|none=>bfs nx s n)=_;rw[e]
theorem lC (n:Nat):bfs nx s n <+: bfs nx s (n+1):=by
 cases e:(bfs nx s n)[n]? with
 | none=>rw[gi e];exact List.prefix_refl _
 | some h=>rw[fB e];exact dR _ _
theorem jI (n:Nat):∀m,bfs nx s n <+: bfs nx s (n+m)
 | 0=>List.prefix_refl _
 | m+1=>(jI n m).trans (lC (n+m))
theorem jA (h:xs <+: ys) {x:κ} (e:xs[i]?=-x):ys[i]?=-x:=by
 obtain⟨t,rfl⟩:=h;rw[QO (Qe.mp e).1];exact e
theorem km (h:xs <+: ys) {x:κ} (hi:i<xs.length) (e:ys[i]?=-x):xs[i]?=-x:=by
 obtain⟨t,rfl⟩:=h;rw[QO hi]at e;exact e
theorem cB:∀n,(bfs nx s n).Nodup
 | 0=>by simp[bfs]
 | n+1=>by
  cases e:(bfs nx s n)[n]? with
  | none=>rw[gi e];exact cB n
  | some h=>rw[fB e];exact eC _ _ (cB n)
theorem cY:∀n x,x∈bfs nx s n->Reach nx s x
 | 0,x,h=>by
  have:x=s:=by simpa[bfs] using h
  subst this;exact .start
 | n+1,x,hx=>by
  cases e:(bfs nx s n)[n]? with
  | none=>rw[gi e]at hx;exact cY n x hx
  | some h =>
  rw[fB e]at hx;rcases(eV _ _ _).mp hx with q|q
  ·exact cY n x q
  exact .step (cY n h (Qg e)) q
theorem qO (n:Nat):(bfs nx s n)[0]?=-s:=jA (by have:=jI (nx:=nx) (s:=s) 0 n;rwa [Nat.zero_add]at this) rfl
theorem vh (n:Nat):s∈bfs nx s n:=Qg (qO n)
theorem lD {n i:Nat} {h:κ} (hi:i<n) (e:(bfs nx s n)[i]?=-h):∀k∈nx h,k∈bfs nx s n:=by
 have h1:bfs nx s i <+: bfs nx s n:=by
  have:=jI (nx:=nx) (s:=s) i (n-i);rwa [Nat.add_sub_cancel' (Xx hi)]at this
 have h2:bfs nx s (i+1) <+: bfs nx s n:=by
  have:=jI (nx:=nx) (s:=s) (i+1) (n-(i+1));rwa [Nat.add_sub_cancel' hi]at this
 intro k hk
 cases q:(bfs nx s i)[i]? with
 | some h' =>
  have:-h'=-h:=(jA h1 q).symm.trans e;cases this;refine h2.subset ?_;rw[fB q];exact(eV _ _ _).mpr (.inr hk)
 | none =>
 exfalso
 have stay:∀m,bfs nx s (i+m)=bfs nx s i:=by
  intro m
  induction m with
  | zero=>rfl
  | succ m ih =>
  have:(bfs nx s (i+m))[i+m]?=none:=by
   rw[ih];exact Xd (QY (List.getElem?_eq_none_iff.mp q) (Nat.le_add_right i m))
  exact(gi this).trans ih
 have:=stay (n-i);rw[Nat.add_sub_cancel' (Xx hi)]at this;rw[this,q]at e;cases e
theorem tY (hn:(bfs nx s n).length<=n) (x:κ):x∈bfs nx s n↔Reach nx s x:=by
 refine{cY n x,λr=>?_}
 induction r with
 | start=>exact vh n
 | step r hb ih =>
 obtain⟨i,hi,e⟩:=Qo.mp ih;exact lD (i:=i) ⋯ (by rw[Qc hi,e]) _ hb
theorem h_:∀(ks w:List κ) (j:Nat) (x:κ),w.length<=j->(bo w ks)[j]?=-x->x∈ks
 | [],w,j,x,hj,e=>by
  have:w[j]?=-x:=e;rw[Xd hj]at this;cases this
 | k::ks,w,j,x,hj,e=>by
  unfold bo at e
  split at e
  ·exact Qx _ (h_ ks w j x hj e)
  by_cases c:j=w.length
  ·subst c;have:=km (dR ks (w++[k])) (i:=w.length) (by simp) e;rw[QK (Qh _)]at this;simp at this;exact this▸Xk
  exact Qx _ (h_ ks (w++[k]) j x (by simp;omega) e)
theorem lB:∀(n j:Nat) (x:κ),0<j->(bfs nx s n)[j]?=-x->∃i h,i<j/\i<n/\(bfs nx s n)[i]?=-h/\x∈nx h
 | 0,j,x,hj,e=>by
  have:([s]:List κ)[j]?=-x:=e;rw[Xd (by simp;omega)]at this;cases this
 | n+1,j,x,hj,e=>by
  cases q:(bfs nx s n)[n]? with
  | none =>
   rw[gi q]at e ⊢;obtain⟨i,h,h1,h2,h3,h4⟩:=lB n j x hj e;exact{i,h,h1,⋯,h3,h4}
  | some h =>
  rw[fB q]at e ⊢;by_cases c:j<(bfs nx s n).length
  ·have e':=km (dR (nx h) (bfs nx s n)) c e;obtain⟨i,h',h1,h2,h3,h4⟩:=lB n j x hj e';exact{i,h',h1,⋯,jA (dR _ _) h3,h4}
  have hn:n<(bfs nx s n).length:=(Qe.mp q).1;exact{n,h,⋯,⋯,jA (dR _ _) q,h_ _ _ j x ⋯ e}
theorem yP (hn:(bfs nx s n).length=n) (hm:(bfs nx s m).length=m):n=m:=by
 have a:∀x,x∈bfs nx s n↔x∈bfs nx s m:=λx=>(tY (Nat.le_of_eq hn) x).trans (tY (Nat.le_of_eq hm) x).symm;have:=(List.perm_ext_iff_of_nodup (cB n) (cB m)).mpr a;have:=this.length_eq;omega
theorem pigeon:∀(xs ys:List κ),xs.Nodup->(∀x∈xs,x∈ys)->xs.length<=ys.length
 | [],_,_,_=>QB _
 | x::xs,ys,nd,h=>by
  rw[Q6]at nd;have hx:x∈ys:=h x Xk;have:=pigeon xs (ys.erase x) nd.2 λy hy=>(List.mem_erase_of_ne (λz:y=x=>nd.1 (by rw[<-z];exact hy))).mpr (h y (Qx _ hy));rw[List.length_erase_of_mem hx]at this;have:0<ys.length:=List.length_pos_of_mem hx;simp only[QT];omega
end
section
variable {κ:Type} [DecidableEq κ] {nx:κ->List κ} {s:κ}
end
end Bf
namespace L2
open PySem PySem.Spec PyProof.Rows
section
variable {X:Cx}
end
section
variable {X:Cx} {scope:Scope} {tgs:List Str} {cap:List (Str × Nat)}
theorem zt {j:Nat} {x:Str} {pos' spos:Pos} {elt tg iter:Expr} {ifs:List Expr} {pos:Pos} {wi:TI} {g:TG} {tt:TT} {te:TE} (hN:X.N.Nodup) (hj:X.N[j]?=-x) (hx:Loc X.env.scope x) (hc:X.calm=true) (B:BlockOk X scope tgs cap) (hi:PI X tg iter wi)
  (hg:∀C s H fp,PG (X.block (tgs++cap.map (·.1)) scope C s H fp) tg g) (ht:∀C s H fp,yX (X.block (tgs++cap.map (·.1)) scope C s H fp) ifs tt) (he:∀C s H fp,PE (X.block (tgs++cap.map (·.1)) scope C s H fp) elt te)
  (hs:∀x,foldedSetIterable iter X.env x=pure x:=by intro _;rfl) (hsw:swapsWith (.ListComp elt [{tg,iter,ifs,0}] scope pos) (-.Name x pos') spos.line X.env=pure true:=by rfl)
  (hf:X.fn x=true\/X.env.scope.names.lookup x=-.local:=by z_go):PS X (.Assign [.Name x pos'] (.ListComp elt [{tg,iter,ifs,0}] scope pos) spos) (uh (i7 wi g tt te (cg tgs cap)) (eU j)):=by
 intro pins s U H D I h;rw[exec_Assign_Name_used _ _ _ _ hsw];refine Qb (wpAny_standAt (Qb ?_));show wpAny _ _ (comprehension _ _ _ _ _ _ _ _ >>= _) _ _ _;refine Qb (thn (Q:=λ_ s'=>SP X pins D .next s') ?_ λ_ s' q=>Qf (Qf q));refine wpAny_comprehension_free (use:=-assign (.Name x pos') X.env) rfl hs (ld (B.cellAt I.ok)) B.kind B.locs (thn (hi pins s U H _ I h) λv s1 h1=>thn h1 λitv s2 h2=>?_);obtain⟨it,fp,tn,J,H2,e,I2,T,st2,f2,q⟩:=h2;subst e;have lt2:∀b∈fp,b<s2.heap.objs.size:=λb hb=>let ⟨o,e,_⟩:=T.obj _ _ st2 b hb;Qm e;have hD:H2 s2.heap.objs.size=none:=I2.hok.fresh (Qh _);obtain⟨W,⟨m0,w0⟩,turn⟩:=q s2.heap.objs.size hD;refine wpAny_newObj_type ?_;have I3:Inv X pins U (upd H2 s2.heap.objs.size (.lst [])) { s2 with heap:=s2.heap.push { cls:=.type "list", dict:=none,data:=.seq ([]:List Value).toArray } }:=I2.lnew (t':=s2.toks) (ys:=[]) (its:=[]) .nil (QB _);have st3:tn 0 (s2.heap.push { cls:=.type "list", dict:=none,data:=.seq ([]:List Value).toArray }):=T.keep _ _ _ st2 λb _ o e=>Qd _ e;have nD:∀b∈fp,b≠s2.heap.objs.size:=λb hb=>Qz (lt2 b hb);have f3:∀b∈fp,ie X pins (upd H2 s2.heap.objs.size (.lst [])) b:=λb hb=>{by rw[am (nD b hb)];exact(f2 b hb).1,(f2 b hb).2};generalize hs3:({ s2 with heap:=s2.heap.push { cls:=.type "list", dict:=none,data:=.seq ([]:List Value).toArray } }:Shared)=s3 at I3 st3 ⊢;have st3':tn 0 s3.heap:=by rw[<-hs3];exact st3
 have lt3:∀b∈fp,b<s3.heap.objs.size:=λb hb=>let ⟨o,e,_⟩:=T.obj _ _ st3' b hb;Qm e;generalize hH3:upd H2 s2.heap.objs.size (.lst [])=H3 at I3 f3 w0;generalize s2.heap.objs.size=DD at *;refine wpAny_newFunctionEnv B.noc (by intro y hy;simp at hy) (λh1 hns hsb=>?_) B.kind;have old:∀b o,s3.heap.get? b=-o->h1.get? b=-o:=λb o e=>hsb.extBut b o (Qz (Qm e)) (Qd _ e);have I4:=Inv.enter (tk:=s3.toks+([]:List (Str × Value)).length) (h1:=h1) B I3 f3 lt3 hns old;have st4:tn 0 h1:=T.keep _ _ _ st3' λb _ o e=>old b o e
 have fpB:∀{H':Hp},(∀b∈fp,H' b=none)->∀b∈fp,ie (X.block (tgs++cap.map (·.1)) scope s3.heap.objs.size s3 H3 fp) [] H' b:=λ{H'} hn b hb =>
  {hn b hb,Qz (lt3 b hb),I4.ok.exfs b hb,.inl hb,λx c e=>(I4.ok.exf b hb).2 x c e,λp hp=>absurd (show p∈([]:J5) from hp) (by simp)}
 have loop:codeAny (model X.prog X.w) X.A (.compLoop (.ListComp elt [{tg,iter,ifs,0}] scope pos) 0 (.ref it) (.ref DD) (compEnvC scope (dE X.env scope.names []) s3.heap.objs.size X.env))
   (compPost (model X.prog X.w) X.A X.xe (-assign (.Name x pos') X.env) (λ_ s'=>SP X pins D .next s') (.ref DD) s3.heap.objs.size) { s3 with heap:=h1,toks:=s3.toks+([]:List (Str × Value)).length }:=by
  refine iA (λn s'=>∃i H' ys,Inv (X.block (tgs++cap.map (·.1)) scope s3.heap.objs.size s3 H3 fp) [] (cg tgs cap U) H' s'/\tn i s'.heap/\(∀b∈fp,H' b=none)/\W i n H' ys) ?_ m0 {0,H3,[],I4,st4,λb hb=>(f3 b hb).1,w0};rintro n s5 ⟨i,H5,ys,I5,st5,fr5,w5⟩;obtain⟨hl,ht5⟩:=turn i n H5 ys w5;rcases ht5 with⟨stop,qd⟩|⟨go,step⟩
  ·refine thn (T.done (X.block (tgs++cap.map (·.1)) scope s3.heap.objs.size s3 H3 fp) rfl rfl rfl hc i [] s5 _ H5 _ I5 (fpB fr5) st5 stop) λr s6 ⟨hr,I6⟩=>?_;subst hr;obtain⟨m6,n6,_⟩:=I6.loc;have IO:Inv X pins U H5 s6:=Inv.leave (h2:=s6.heap) I3 f3 I6 {rfl,λ_ _=>rfl};have fC:ie X pins H5 s3.heap.objs.size:={I6.free,(I3.fpOk (Qh _) (I3.hok.fresh (Qh _))).2};obtain⟨f0,f1,f2',f3',f4,f5⟩:=fC;refine wpAny_assign_Name (my IO hN hj hx (show aY (.ref DD) (.ref DD) from rfl) (λs7 I7 ⟨a,sb,ha⟩=>?_) hf)
   have na:s3.heap.objs.size≠a:=by
    rcases ha with z|z
    ·rw[z];exact f1
    exact λy=>f4 x a z y.symm
   obtain⟨o6,es6,ep6,ho6,r6⟩:=n6;refine{m6,{o6,es6,ep6,(sb.2 _ na).trans ho6,r6},λh' hs'=>{_,H5,I7.turned (t':=s7.toks) (λb o hb q=>(hs'.2 b hb).trans q) f0 f1 f3' f4 f5,qd} }
  refine thn (T.item (X.block (tgs++cap.map (·.1)) scope s3.heap.objs.size s3 H3 fp) rfl rfl rfl hc i [] s5 _ H5 _ I5 (fpB fr5) st5 go) λr s6 ⟨u,hr,h6⟩=>?_;subst hr;refine thn h6 λ_ s7 ⟨x,H7,I7,r7,y7,st7,fr7⟩=>?_;have I7':=I7.pinned (fpB fr7) (T.obj _ _ st7)
  have again:∀{σ8:St} {H8:Hp} {s8:Shared} {ys8:List V},Inv (X.block (tgs++cap.map (·.1)) scope s3.heap.objs.size s3 H3 fp) ([]++iM fp s7.heap) σ8 H8 s8->wk (cg tgs cap U) σ8->(∃m',m'<n/\W (i+1) m' H8 ys8) ->
    ∃m,m<n/\∃i H' ys,Inv (X.block (tgs++cap.map (·.1)) scope s3.heap.objs.size s3 H3 fp) [] (cg tgs cap U) H' s8/\tn i s8.heap/\(∀b∈fp,H' b=none)/\W i m H' ys:=λ{σ8 H8 s8 ys8} I8 k8 ⟨m',hm,w8⟩=>by
   refine{m',hm,i+1,H8,ys8,I8.unpinned.weak (nj k8) (nk k8),T.keep _ _ _ st7 λb hb o e=>(I8.pin (b,o) (QV _ (QV _ (dM hb e)))).1,λb hb=>?_,w8};obtain⟨o,e,d⟩:=T.obj _ _ st7 b hb;exact(I8.pin (b,o) (QV _ (QV _ (dM hb e)))).2.1
  refine thn (hg _ _ _ _ _ s7 _ H7 x u _ I7' r7 (step x H7 y7)) λ_ s8 ⟨σ8,H8,I8,k8,q8⟩=>?_;refine thn (ht _ _ _ _ _ s8 σ8 H8 _ I8 q8) λok s9 ⟨H9,I9,q9⟩=>?_
  cases ok with
  | false =>
   rw[QE Qn]at q9 ⊢;exact again I9 k8 q9
  | true =>
  rw[QF rfl]at q9 ⊢;refine thn (he _ _ _ _ _ s9 σ8 H9 _ I9 q9) λy sA ⟨yv,HA,IA,rA,hA,zA,qA⟩=>?_;exact thn (be _ sA σ8 HA (.ref DD) [yv] (.ref DD) [y] (λv H'=>v=.non/\∃m',m'<n/\W (i+1) m' H' (ys++[yv])) IA rfl (.cons rA .nil) ⟨DD,ys,yv,rfl,rfl,hA,zA,rfl,qA⟩) λ_ sB ⟨_,HB,IB,_,_,qB⟩=>again IB k8 qB
 exact codeAny_compStart_list loop (T.self _ 0 _ _ _ st4 loop)
end
end L2
namespace L2
open PySem PySem.Spec PyProof.Rows
open AutoSeq1 (wpAny_loadPart')
section
variable {P:Program} {w:World} {A:Around} {E:J0} {s:Shared}
theorem u9 (l:Addr) (c:Int) (tc:Tok) (hc:Builtin.SmallTypes.fitsIndex c=true) (its:Array Value) (m:Nat) (dd:Option Addr) (ss:Array (Option Value)) :
  Meets (Builtin.«enumerate.__new__» {[.type "enumerate", .ref l],[("start", .int c tc)]}) (λ_ R t=>t.heap.get? l=some { cls:=.type "list", dict:=dd,data:=.seq its m,slots:=ss } /\
   R (.ok (.ret (.ref (t.heap.push { cls:=.type "list_iterator", data:=.fields #[.ref l,.int 0 0] }).objs.size)))
    { t with heap:=(t.heap.push { cls:=.type "list_iterator", data:=.fields #[.ref l,.int 0 0] }).push { cls:=.type "enumerate", data:=.fields #[.none,.bool false,.ref t.heap.objs.size,rawInt c,.none,.none] } }):=by
 refine .of_wp λP w A R t ht=>?_;obtain⟨hp,g,d,tk,os⟩:=t;obtain⟨hl,h⟩:=ht;have sub:=sub_enumerate;have hL:Heap.IsList (Shared.heap ⟨hp,g,d,tk,os⟩) l its:=⟨_,hl,rfl,m,rfl⟩
 wp_walk using wpAny_loadPart' hl
 refine wpAny_stack_any λst=>Qf ?_;have nf:(!Builtin.SmallTypes.fitsIndex c)=false:=by rw[hc];rfl
 split
 rotate_left
 ·(wp_walk using wpAny_loadPart' hl,wpAny_pyIter_list hL);exact⟨_,rfl,h⟩
 rename_i k _ _ _ _ _
 cases (k==Value.type "enumerate") <;> ((wp_walk using wpAny_loadPart' hl,wpAny_pyIter_list hL);exact⟨_,rfl,h⟩)
theorem ud (a b:Value):checkTypeCall "enumerate" {[a],[("start", b)]}=pure ():=by kernel_rfl
theorem wI (a b:Value):checkBuiltinCall "enumerate.__new__" {[.type "enumerate", a],[("start", b)]}=pure ():=by kernel_rfl
theorem Gi (a b c:Value):argsOk "object.__init__" {[a,b],[("start", c)]}:=by
 show Bind.checkArgs _ _ _=_
 kernel_rfl
theorem wF {T nid:String} {o a b:Value} (hl:typeLookup (.type T) "__init__" = pure (-.builtin "object.__init__")) (hm:Bind.madeBy (.type T)=pure (-nid)) (ne:(some nid != some "object.__new__")=true) :
  Meets (Builtin.«object.__init__» {[o,a],[("start", b)]}) (λ_ R t=>t.TypeIs o T/\R (.ok (.ret .none)) t):=by
 refine .of_wp λP w A R t ⟨hT,hq⟩=>?_
 repeat (any_goals (first|assumption|wp_step))
 exact⟨_,rfl,hq⟩
end
end L2
namespace L2
open PySem PySem.Spec PyProof.Rows
variable {P:Program} {w:World} {A:Around} {E:J0} {s:Shared}
section
theorem sw {l:Addr} {c:Int} {tc:Tok} {its:Array Value} {Q:J0} (hc:Builtin.SmallTypes.fitsIndex c=true) (hL:s.heap.IsList l its)
  (h:∀h',IsEnum h' (s.heap.objs.size+1) s.heap.objs.size c .none->h'.IsListIter s.heap.objs.size l 0->(∀b o,s.heap.get? b=-o->h'.get? b=-o)->Q (.ref (s.heap.objs.size+1)) { s with heap:=h' }) :
  wpAny (model P w) A (call (.type "enumerate") [.ref l] [("start", .int c tc)]) Q E s:=by
 obtain⟨⟨k,dd,dt,ss⟩,hl,hk,m,hd⟩:=hL;have hk:k=.type "list" := hk;have hd:dt=.seq its m:=hd;subst hk hd;have ft:=F.called_enumerate;obtain⟨c0,tl,hmro⟩:=ft.mro;have hmade:=ft.made;have hsub:=ft.sub;have h1:=ft.notType;have h2:=ft.canCreate;have hct:=ud (.ref l) (.int c tc);refine wpAny_call (codeAny_of_tree ?_);show wpAny _ _ (callAny (.type "enumerate") _) _ _ _;refine Qf {Code.quiet_builtin _ (by decide +kernel),Xu F.entry_type_call ?_};rw[Around.under_plain (weight_type_call_type "enumerate" [.ref l] [("start", .int c tc)]) (units_type_call_type "enumerate" [.ref l] [("start", .int c tc)])]
 repeat (any_goals (first|assumption|wp_step))
 have hcn:=wI (.ref l) (.int c tc);refine codeAny_mono (codeAny_call_builtin ft.plain F.entry_enumerate_new (wpAny_of_eq hcn ((u9 l c tc hc its m dd ss) P w A.in1 (wants (λobj s₁=>s₁.TypeIs obj "enumerate" /\ Q obj s₁) E) s {hl,?_}))) λr s₁ hr=>?_
 ·have hz:(s.heap.push { cls:=.type "list_iterator", data:=.fields #[.ref l,.int 0 0] }).objs.size=s.heap.objs.size+1:=Xe ..;show _/\_;rw[hz];have he:=Qr (s.heap.push { cls:=.type "list_iterator", data:=.fields #[.ref l,.int 0 0] }) (o:={ cls:=.type "enumerate", data:=.fields #[.none,.bool false,.ref s.heap.objs.size,rawInt c,.none,.none] }) rfl;rw[hz]at he;exact{⟨_,he,rfl⟩,h _ he {_,Qd _ (Qr _ rfl),rfl,rfl} λb o x=>Qd _ (Qd _ x)}
 cases r with
 | error e=>exact hr
 | ok fl =>
 cases fl with
 | ret obj =>
  obtain⟨hT,hq⟩:=hr;have hli:=ft.init.lookup;have hbi:=ft.init.bind obj
  repeat (any_goals (first|assumption|wp_step))
  refine codeAny_mono (codeAny_call_builtin ft.init.plain F.entry_object_init (ft.init.check _ _ _ _ _ _ _ _ hT (Gi obj _ _) ((wF ft.init.lookup ft.made (by decide)) P w A.in1 (wants (λr s₂=>r=.none/\Q obj s₂) E) s₁ ⟨hT,rfl,hq⟩))) λr₂ s₂ hr₂=>?_
  cases r₂ with
  | error e=>exact hr₂
  | ok fl₂ =>
  cases fl₂ with
  | ret r=>obtain⟨rfl,hq⟩:=hr₂;repeat (any_goals (first|assumption|wp_step))
  | _=>exact hr₂.elim
 | _=>exact hr.elim
end
section
variable {its:Array Value} {e it l:Addr}
theorem se {i:Nat} {c:Int} {x old:Value} {Q:J0} (he:IsEnum s.heap e it c old) (hit:s.heap.IsListIter it l i) (hl:s.heap.IsList l its) (hx:its[i]?=-x) (hne:e≠it)
  (hQ:∀h',IsEnumOut h' e it (c+1) x s.heap.objs.size->h'.IsListIter it l (i+1)->h'.get? s.heap.objs.size=some { cls:=.type "tuple", data:=.seq #[.int c s.toks,x] } ->
   (∀b o,b≠e->b≠it->s.heap.get? b=-o->h'.get? b=-o)->Q (.ref s.heap.objs.size) { s with heap:=h',toks:=s.toks+1 }) :
  wpAny (model P w) A (Builtin.«enumerate.__next__» {[.ref e],[]}) (λfin s'=>∃v,fin=.done (.ret v)/\Q v s') E s:=by
 obtain⟨hp,g,d,tk,os⟩:=s;show wpAny _ _ (field (.ref e) 2 >>= _) _ _ _;refine Qb (Xs he rfl (x:=.ref it) rfl (Qb (wpAny_nextOf_list_item hit hl hx λk1 i1 s1=>?_)));have s1:Heap.SameBut it hp k1:=s1;have e1:IsEnum k1 e it c old:=(s1.2 e hne).trans he;show wpAny _ _ (field (.ref e) 3 >>= _) _ _ ⟨k1,g,d,tk,os⟩;refine Qb (Xs e1 rfl (x:=rawInt c) rfl ?_);show wpAny _ _ (field (.ref e) 4 >>= _) _ _ ⟨k1,g,d,tk,os⟩;refine Qb (Xs e1 rfl (x:=.none) rfl ?_);show wpAny _ _ (mkInt c >>= _) _ _ ⟨k1,g,d,tk,os⟩;refine Qb (wpAny_mkInt ?_);show wpAny _ _ (setField (.ref e) 3 (rawInt (c+1)) >>= _) _ _ {k1,g,d,tk+1,os};refine Qb (Xl e1 (by simp) λk2 e2 s2=>?_);have s2:Heap.SameBut e k1 k2:=s2;have e2:IsEnum k2 e it (c+1) old:=e2;show wpAny _ _ (setField (.ref e) 4 .none >>= _) _ _ {k2,g,d,tk+1,os};refine Qb (Xl e2 (by simp) λk3 e3 s3=>?_);have s3:Heap.SameBut e k2 k3:=s3;have e3:IsEnum k3 e it (c+1) old:=e3;show wpAny _ _ (newTuple [.int c tk,x] >>= _) _ _ {k3,g,d,tk+1,os};refine Qb (wpAny_newTuple ?_);have e4:IsEnum (k3.push { cls:=.type "tuple", data:=.seq #[.int c tk,x] }) e it (c+1) old:=Qd _ e3;generalize hh:k3.push { cls:=.type "tuple", data:=.seq #[.int c tk,x] }=k4 at e4;have sz:k3.objs.size=hp.objs.size:=by rw[s3.1,s2.1,s1.1]
 have el:e<hp.objs.size:=Qm he;have t4:k4.get? hp.objs.size=some { cls:=.type "tuple", data:=.seq #[.int c tk,x] }:=by rw[<-hh,<-sz];exact Qr _ rfl
 have kp:∀b o,b≠e->b≠it->hp.get? b=-o->k4.get? b=-o:=λb o n1 n2 q=>by rw[<-hh];exact Qd _ (s3.extBut b o n1 (s2.extBut b o n1 (s1.extBut b o n2 q)))
 have i4:k4.IsListIter it l (i+1):=by
  obtain⟨o,ho,r⟩:=(i1.extBut s2.extBut (XJ hne)).extBut s3.extBut (XJ hne);exact{o,by rw[<-hh];exact Qd _ ho,r}
 show wpAny _ _ (Builtin.SmallTypes.ownedTupleIsFree (.ref e) >>= _) _ _ {k4,g,d,tk+1,os};rw[sz];refine Qb ?_;unfold Builtin.SmallTypes.ownedTupleIsFree;refine Qb (Xs e4 rfl (x:=.none) rfl (Qf ?_));simp only[if_true];refine Qb (XU (Qb (Xs e4 rfl (x:=old) rfl (Qb (Xl e4 (by simp) λk5 e5 s5=>?_)))));have s5:Heap.SameBut e k4 k5:=s5;have e5:IsEnum k5 e it (c+1) x:=e5;show wpAny _ _ (Builtin.SmallTypes.ownedTupleHandOut (.ref e) (.ref hp.objs.size) >>= _) _ _ {k5,g,d,tk+1,os};refine Qb ?_;unfold Builtin.SmallTypes.ownedTupleHandOut;refine Qb (Xl e5 (by simp) λk6 e6 s6=>?_);have s6:Heap.SameBut e k5 k6:=s6;have e6:IsEnumOut k6 e it (c+1) x hp.objs.size:=e6;refine Xl e6 (by simp) λk7 e7 s7=>?_;have s7:Heap.SameBut e k6 k7:=s7;have e7:IsEnumOut k7 e it (c+1) x hp.objs.size:=e7;have far:∀b o,b≠e->k4.get? b=-o->k7.get? b=-o:=λb o n q=>s7.extBut b o n (s6.extBut b o n (s5.extBut b o n q));exact Qb (wpAny_letGo (Qf {_,rfl,hQ k7 e7 (((i4.extBut s5.extBut (XJ hne)).extBut s6.extBut (XJ hne)).extBut s7.extBut (XJ hne)) (far _ _ (XG el) t4) λb o n1 n2 q=>far b o n1 (kp b o n1 n2 q)}))
variable {Q:Option Value->Shared->Prop}
theorem nZ {i:Nat} {c:Int} {x old:Value} (he:IsEnum s.heap e it c old) (hit:s.heap.IsListIter it l i) (hl:s.heap.IsList l its) (hx:its[i]?=-x) (hne:e≠it)
  (hQ:∀h',IsEnumOut h' e it (c+1) x s.heap.objs.size->h'.IsListIter it l (i+1)->h'.get? s.heap.objs.size=some { cls:=.type "tuple", data:=.seq #[.int c s.toks,x] } ->
   (∀b o,b≠e->b≠it->s.heap.get? b=-o->h'.get? b=-o)->Q (-.ref s.heap.objs.size) { s with heap:=h',toks:=s.toks+1 }):wpAny (model P w) A (pyNext (.ref e)) Q E s:=by
 have ty:s.TypeIs (.ref e) "enumerate" := ⟨_,he,rfl⟩;unfold pyNext;refine Qb (wpAny_attempt (XY (name:=Str.ofString "__next__") ty F.slot_enumerate_next (XH F.slot_enumerate_next ty F.entry_enumerate_next (se he hit hl hx hne λh' a b c k=>?_) (F.args_enumerate_next_1 _))));exact Qf (hQ h' a b c k)
theorem iL {i:Nat} {c:Int} {old:Value} (hh:A.handled=none) (he:IsEnum s.heap e it c old) (hit:s.heap.IsListIter it l i) (hl:s.heap.IsList l its) (hx:its[i]?=none)
  (hQ:∀h',Heap.ExtBut it s.heap h'->Q none { s with heap:=h' }):wpAny (model P w) A (pyNext (.ref e)) Q E s:=by
 have ty:s.TypeIs (.ref e) "enumerate" := ⟨_,he,rfl⟩;unfold pyNext;refine Qb (wpAny_attempt (XY (name:=Str.ofString "__next__") ty F.slot_enumerate_next (XH F.slot_enumerate_next ty F.entry_enumerate_next ?_ (F.args_enumerate_next_1 _))));show wpAny _ _ (field (.ref e) 2 >>= _) _ _ _;refine Qb (Xs he rfl (x:=.ref it) rfl (Qb (wpAny_nextOf_list_end hh hit hl hx λh' y hx' ⟨o,ho,ko⟩=>?_)));exact Qb (wpAny_isInstance (T := "StopIteration") (b:=true) ⟨o,ho,ko⟩ isSubtype_stop (Qf (hQ _ hx')))
end
noncomputable def xI (K:PySem.W.Frag) (a:Addr) (n:Int):It :=
 {λi H=>∃xs x,SqL K H a xs/\xs[i]?=-x,λi H x H'=>∃T v,H T=none/\x=.ref T/\H'=upd H T (.tup [.int (n+(i:Nat)),v])/\∀xs,SqL K H a xs->xs[i]?=-v,λi H=>∃xs,SqL K H a xs/\xs.length<=i}
variable {K:PySem.W.Frag}
theorem qW {P:Program} {w:World} {elts:List Expr} {k:Nat} {pos:Pos} (a e it:Addr) (n:Int) (hne:e≠it) :
  Turn P w K (.Tuple elts k pos) (xI K a n) [e,it] e (λi h=>(∃old,IsEnum h e it (n+(i:Nat)) old)/\h.IsListIter it a i) where
 mem:=by simp
 obj:=λi h st b hb=>by
  obtain⟨⟨old,he⟩,o,ho,hc,hd⟩:=st;have z:b=e\/b=it:=by simpa using hb
  rcases z with z|z
  ·subst z
   exact{_,he,λv q=>by
    have q':Data.fields _=Data.cell v:=q
    cases q'}
  subst z;exact{o,ho,λv q=>by rw[hd]at q;cases q}
 keep:=λi h h' st kk=>by
  obtain⟨⟨old,he⟩,hl⟩:=st;exact{ {old,kk e (by simp) _ he},hl.at λo q=>kk it (by simp) o q}
 item:=by
  intro X hP hw hK hc i pins s U H E I hf st hg;subst hP hw hK;obtain⟨xs,x,hq,hx⟩:=hg;obtain⟨its,rv,p,hz⟩:=I.list hq;obtain⟨u,hu,ru⟩:=rv.get hx;obtain⟨⟨old,he⟩,hl⟩:=st;have f1:=hf e (by simp);have f2:=hf it (by simp);refine nZ he hl p.isList (x:=u) (~~~hu) hne λh1 a1 a2 a3 a5=>{_,rfl,?_};refine wpAny_letOwnedTupleGo_enum a1 λh2 b1 b2=>?_
  have nTe:s.heap.objs.size≠e:=λz=>by
   have q:=Qm (show s.heap.get? e=-_ from he);rw[<-z]at q;exact Nat.lt_irrefl _ q
  have keep2:∀b o,b≠e->b≠it->s.heap.get? b=-o->h2.get? b=-o:=λb o n1 n2 q=>b2.extBut b o n1 (a5 b o n1 n2 q);have tup2:h2.get? s.heap.objs.size=some { cls:=.type "tuple", data:=.seq #[.int (n+(i:Nat)) s.toks,u] }:=b2.extBut _ _ nTe a3
  have I2:Inv X pins U (upd H s.heap.objs.size (.tup [.int (n+(i:Nat)),x])) { s with heap:=h2,toks:=s.toks+1 } :=
   I.turned2 keep2 f1 f2 (Qh _) {(by show 2<=sizeLine;decide),[.int (n+(i:Nat)) s.toks,u],.cons ⟨_,rfl⟩ (.cons ru .nil),⟨_,tup2,rfl,_,rfl⟩}
  refine{.ref s.heap.objs.size,_,I2,rfl,{s.heap.objs.size,x,I.hok.fresh (Qh _),rfl,rfl,λys hy=>by rw[I.list_inj hy hq];exact hx},{ {u,?_},(a2.extBut b2.extBut (XJ hne))},λb hb=>?_}
  ·have q:IsEnum h2 e it (n+(i:Nat)+1) u:=b1;have c:n+(((i+1:Nat):Nat):Int)=n+(i:Nat)+1:=by omega
   rw[c];exact q
  have z:b=e\/b=it:=by simpa using hb
  have nT:b≠s.heap.objs.size:=by
   rcases z with z|z
   ·rw[z];exact XJ nTe
   rw[z];obtain⟨o,ho,_⟩:=hl;exact Qz (Qm ho)
  rw[am nT];exact(hf b hb).1
 done:=by
  intro X hP hw hK hc i pins s U H E I hf st hg;subst hP hw hK;obtain⟨xs,hq,hx⟩:=hg;obtain⟨its,rv,p,hz⟩:=I.list hq;obtain⟨⟨old,he⟩,hl⟩:=st;obtain⟨f0,f1,f2,f3,f4,f5⟩:=hf it (by simp);have hlen:=rv.length;exact iL (I.ok.hd hc) he hl p.isList (by simp;exact om4 hx hlen) λh' eb=>{rfl,I.turned (t':=s.toks) (λb o hb q=>eb b o hb q) f0 f1 f3 f4 f5}
 self:=λ_ _ _ _ _ st h=>by
  obtain⟨⟨old,he⟩,_⟩:=st;exact wpAny_pyIter_enum he h
section
variable {X:Cx} {elts:List Expr} {k:Nat} {tpos:Pos}
def Bx (K:PySem.W.Frag) (ta tk:TA):TI:=λU H R=>ta U H λvs H1=>tk U H1 λzs H2=>∃a n,vs=[.ref a]/\zs=[.int n]/\(0<=n/\n<1000)/\(∃xs,SqL K H2 a xs)/\R (xI K a n) H2
variable {E Q:J0}
theorem lA {M:Model} {env:Env} {pos:Pos} {T:String} {e:Expr} {kws:List Keyword} {A:Around} {s:Shared}
  (h:wpAny M A (spliced (backTo pos (starEach [e] env))) (λvs s1=>wpAny M A (evalAll ((backToKw pos (keywordEach kws env)).map (·.2))) (λzs s2=>wpAny M A (call (.type T) vs (((backToKw pos (keywordEach kws env)).filterMap (·.1)).zip zs)) Q E s2) E s1) E s)
  (he:backTo pos (starEach [e] env)=(false,eval e env)::backTo pos (starEach [] env):=by rfl) (hp:(backTo pos (starEach [e] env)).any (·.1)=false:=by rfl) (ha:(backToKw pos (keywordEach kws env)).all (·.1.isSome)=true:=by rfl) (hk:(backToKw pos (keywordEach kws env)).any (·.1.isNone)=false:=by rfl) :
  wpAny M A (callWith pos (.type T) [] (backTo pos (starEach [e] env)) (backToKw pos (keywordEach kws env))) Q E s:=by
 unfold callWith;refine Qb (Q3 (Xr (show wpAny M A (evalArgs _ true _ _) (λa s1=>wpAny M A (call (.type T) a.pos a.kw) Q E s1) E s from ?_) (λa s1 h1=>Qb (wpAny_standAt ?_)) λ_ _ x=>x))
 ·rw[he]at h ⊢;exact evalArgs_kwB ha h
 simp only[hp,hk,Bool.or_false];refine Qb (Qf ?_);exact Qb (Xr h1 (λr s2 hr=>Qb (Q3 (wpAny_point (Qf hr)))) λ_ _ x=>x)
theorem v4 {a b:Expr} {ta tk:TA} {p pos kp:Pos} (hg:Gl X "enumerate") (hm:X.mg "enumerate" = none) (ha:PA X [a] ta) (hb:PK X [{some "start", b,kp}] tk) (he:∀pos,backTo pos (starEach [a] X.env)=(false,eval a X.env)::backTo pos (starEach [] X.env):=by intro pos;rfl) :
  PI X (.Tuple elts k tpos) (.Call (.Name "enumerate" p) [a] [{some "start", b,kp}] pos) (Bx X.K ta tk):=by
 intro pins s U H R I h;refine wpAny_Call_Name_kw (d7 I hg hm boot_enumerate ?_);refine lA (thn (ha pos pins s U H _ I h) λus s1 ⟨vs,H1,I1,r1,q1⟩=>thn (hb pos pins s1 U H1 _ I1 q1) λws s2 ⟨zs,H2,I2,rz,q2⟩=>?_) (he pos) (by rw[he pos];rfl);obtain⟨l,n,e1,e2,⟨n0,n1⟩,⟨xs,hq⟩,q⟩:=q2;subst e1 e2
 cases r1 with
 | cons r rr =>
 cases rr;cases r;obtain⟨u,e,ru⟩:=d8 rz;subst e;obtain⟨tc,e⟩:=ru;subst e;obtain⟨its,rv,pl,hz⟩:=I2.list hq;refine sw (c:=n) (tc:=tc) (by unfold Builtin.SmallTypes.fitsIndex;simp;omega) pl.isList λh' b1 b2 b4=>?_;refine wpAny_pyIter_enum b1 ?_;have I3:Inv X pins U H2 { s2 with heap:=h' }:=I2.kept (t':=s2.toks) b4;refine{s2.heap.objs.size+1,[s2.heap.objs.size+1,s2.heap.objs.size],_,_,H2,rfl,I3,qW l (s2.heap.objs.size+1) s2.heap.objs.size n (by show @Ne Nat _ _;exact om5),{ {_,by rw[show n+((0:Nat):Int)=n from ⋯];exact b1},b2},λb hb=>?_,q};have z:b=s2.heap.objs.size+1\/b=s2.heap.objs.size:=by simpa using hb
 have hle:s2.heap.objs.size<=b:=by
  rcases z with z|z
  ·rw[z];exact Nat.le_succ _
  rw[z];exact Qh _
 exact I2.fpOk hle (I2.hok.fresh hle)
end
theorem u7 {a:Addr} {n:Int} {xs:List V} {g:TG} {tb:TS} {D:Ends} {U:St} {H:Hp} (Pv:Nat->St->Hp->Prop) (h0:Pv 0 U H) (hl:∀i U H,i<=xs.length->Pv i U H->SqL K H a xs)
  (hs:∀i x U H T,xs[i]?=-x->Pv i U H->H T=none->g (.ref T) U (upd H T (.tup [.int (n+(i:Nat)),x])) λσ2 H2=>tb { D with nx:=Pv (i+1),ct:=Pv (i+1),bk:=D.nx } σ2 H2) (hd:∀U H,Pv xs.length U H->D.nx U H) :
  ∃W:Nat->Nat->St->Hp->Prop,(∃m,W 0 m U H)/\∀i m U H,W i m U H ->
   ((xI K a n).stop i H/\D.nx U H)\/((xI K a n).go i H/\∃N:St->Hp->Prop,(∀σ' H',N σ' H'->∃m',m'<m/\W (i+1) m' σ' H')/\∀x H',(xI K a n).yld i H x H'->g x U H' λσ2 H2=>tb { D with nx:=N,ct:=N,bk:=D.nx } σ2 H2):=by
 refine{λi m U H=>m=xs.length-i/\i<=xs.length/\Pv i U H,{xs.length,by simp,QB _,h0},?_};rintro i m U H ⟨rfl,hi,p⟩;have q:=hl i U H hi p;by_cases hlt:i<xs.length
 ·refine .inr { {xs,xs[i],q,by simp[hlt]},Pv (i+1),λσ' H' p'=>{xs.length-(i+1),⇑(om6 hlt),rfl,hlt,p'},λx H' y=>?_};obtain⟨T,v,hT,ex,eH,y⟩:=y;subst ex eH;exact hs i v U H T (y xs q) p hT
 have e:i=xs.length:=by exact om0 hi hlt
 subst e;exact .inl { {xs,q,Qh _},hd U H p}
theorem k9 {H1:Hp} {D:Addr} {σ0:St} {g:TG} {te:TE} {tt:TT} {QD:Hp->Prop} {a:Addr} {xs:List V} (Pv:Nat->Hp->List V->Prop) (h0:Pv 0 (upd H1 D (.lst [])) []) (hD:∀i H ys,Pv i H ys->H D=-.lst ys/\SqL K H a xs)
  (hs:∀i x H ys,xs[i]?=-x->Pv i H ys->g x σ0 H λσ2 H2=>wk σ0 σ2/\tt σ2 H2 λb H3=>if b=true then te σ2 H3 (b9 Pv xs.length D i ys) else ∃m',m'<xs.length-i/\(m'=xs.length-(i+1)/\i+1<=xs.length/\Pv (i+1) H3 ys)) (hd:∀H ys,Pv xs.length H ys->QD H) :
  ∃W:Nat->Nat->Hp->List V->Prop,(∃m,W 0 m (upd H1 D (.lst [])) [])/\∀i m H ys,W i m H ys->H D=-.lst ys/\(((Itl K a).stop i H/\QD H)\/((Itl K a).go i H/\∀x H',(Itl K a).yld i H x H'->g x σ0 H' λσ2 H2=>wk σ0 σ2/\tt σ2 H2 λb H3 =>
   if b=true then te σ2 H3 λv H4=>H4 D=-.lst ys/\ys.length<sizeLine/\∃m',m'<m/\W (i+1) m' (upd H4 D (.lst (ys++[v]))) (ys++[v]) else ∃m',m'<m/\W (i+1) m' H3 ys)):=by
 refine{λi m H ys=>m=xs.length-i/\i<=xs.length/\Pv i H ys,{xs.length,by simp,QB _,h0},?_};rintro i m H ys ⟨rfl,hi,p⟩;obtain⟨d1,d2⟩:=hD i H ys p;refine{d1,?_};by_cases hlt:i<xs.length
 ·refine .inr { {xs,xs[i],d2,by simp[hlt]},λx H' y=>?_};obtain⟨e,y⟩:=y;subst e;exact hs i x _ ys (y xs d2) p
 have e:i=xs.length:=by exact om0 hi hlt
 subst e;exact .inl { {xs,d2,Qh _},hd H ys p}
theorem xk {x:V} (h:dD x=true):eqV x x=true:=by
 cases x <;> first|(simp[eqV];done)|(simp[dD]at h;done)|simp_all [eqV,dD]
theorem oV (n:Nat):((List.range n).all λ_=>true)=true:=QM.mpr λ_ _=>rfl
section
variable {K:PySem.W.Frag} {H:Hp} {Q:VK}
theorem xj {n:Nat} {x:V} (h:dD x=true):EqD K H n x x true:=by
 have q:=EqD.flat (K:=K) (H:=H) (n:=n) h h;rwa [xk h]at q
variable {xs ys:List V} {a b l:Addr}
theorem qH {n:Nat} (h1:SqL K H a xs) (h2:SqL K H b ys) (hl:xs.length=ys.length) (hi:∀(j:Nat) x y,xs[j]?=-x->ys[j]?=-y->EqD K H n x y true):EqD K H (n+1) (.ref a) (.ref b) true:=by
 by_cases e:a=b
 ·subst e;exact .same
 have q:=EqD.lists (e:=λ_=>true) h1 h2 hl hi e;rwa [oV]at q
theorem u8 {n:Nat} (f:xs.all dD=true):∀(j:Nat) x y,xs[j]?=-x->xs[j]?=-y->EqD K H n x y true:=λj x y e1 e2=>by
 rw[e1]at e2;cases e2;exact xj (QM.mp f x (Qg e1))
theorem F5 (h1:SqL K H a xs) (h2:SqL K H b ys) (hl:xs.length=ys.length) (hi:∀(j:Nat) x y,xs[j]?=-x->ys[j]?=-y->EqD K H 8 x y true) (q:Q (.bl false) H):rj K true (.ref a) (.ref b) H Q:=by
 refine{a,b,xs,ys,λ_=>true,rfl,rfl,h1,h2,hi,?_};rw[oV,hl,beq_self_eq_true];exact q
theorem F4 (h1:SqT K H a xs) (h2:SqT K H b ys) (hl:xs.length=ys.length) (hi:∀(j:Nat) x y,xs[j]?=-x->ys[j]?=-y->EqD K H 8 x y true) (q:Q (.bl false) H):B2 K true (.ref a) (.ref b) H Q:=by
 refine{a,b,xs,ys,λ_=>true,rfl,rfl,h1,h2,hi,?_};rw[oV,hl,beq_self_eq_true];exact q
theorem r_eqNil {R:Bool->Hp->Prop} {U:St} (hl:H l=-.lst xs) (q:∀H',ao H H'->R (decide (xs.length=0)) H'):vA eL U H λy H2=>rj K false (.ref l) y H2 λx H'=>∃k,x=.bl k/\R k H':=by
 refine cw (aB {by simp[sizeLine],λp hp=>?_});refine{l,p,xs,[],λ_=>true,rfl,rfl,SqL.of (ag hp _ _ hl),SqL.of ae,λj x y _ e=>by simp at e,_,rfl,?_}
 have e:(if false=true then !(xs.length==([]:List V).length&&(List.range xs.length).all λ_=>true) else (xs.length==([]:List V).length&&(List.range xs.length).all λ_=>true))=decide (xs.length=0):=by
  rw[QE Qn,oV,Bool.and_true];rfl
 rw[e];exact q _ (ag hp)
end
end L2
namespace LY
open PySem LZ
section
variable {prog:Program} {w:World} {A:Around} {E:J0} {s:Shared}
end
structure ApartM (z TI TO i1 i2 l m d:Addr):Prop extends ApartD z TI TO i1 i2 l d where
 mz:m≠z
 mTO:m≠TO
 mi1:m≠i1
 mi2:m≠i2
 dm:d≠m
structure ZS (h:Heap) (z TI TO i1 i2 l d:Addr) (m:Addr) (xs ys:Array Value) (k:Nat):Prop where
 zf:(IsZ h z TI TO .none false/\∃a b,IsPair h TO a b)\/∃(T:Addr) (f1:Bool) (oT:Obj),IsZ h z TI TO (rawInt (T:Nat)) f1/\h.get? T=-oT/\T≠z/\T≠i1/\T≠i2/\T≠d
 ti:IsPair h TI (.ref i1) (.ref i2)
 a1:h.IsListIter i1 l k
 a2:h.IsListIter i2 m k
 li:h.IsList l xs
 mi:h.IsList m ys
section
variable {prog:Program} {w:World} {K:Type} [DecidableEq K] {knd:KeyKind prog w K} {A:Around} {R:Result->Shared->Prop}
end
end LY
namespace L2
open PySem PySem.Spec PyProof.Rows
section
variable {X:Cx} {elts:List Expr} {k:Nat} {tpos:Pos}
end
section
variable {X:Cx}
end
section
variable {X:Cx}
end
end L2
namespace LS
open PySem PySem.Spec PyProof.Rows
def Led (w:World) (t:SetTable) (n:Nat):Prop:=w.params.followText "set-order" = true\/(t.led=true/\(n≠0->t.plain=false))
theorem uk (t:SetTable) (n:Nat):(t.orStandIn n).led=t.led/\(t.plain=false->(t.orStandIn n).plain=false):=by
 unfold SetTable.orStandIn
 split
 ·exact⟨rfl,id⟩
 exact{rfl,λ_=>rfl}
theorem rV (t:SetTable) (es:Array (Int × Value)) (h:Int) (x:Value):(layNew t es h x).2.1.led=t.led/\(t.plain=false->(layNew t es h x).2.1.plain=false):=by
 unfold layNew
 split
 ·exact uk (t.put _).1 _
 exact{rfl,λ_=>rfl}
theorem wR {m f v:Nat} {l p:Bool} {hs:Array Int} {t:SetTable} {o:Array Nat} (h:SetTable.laid m f v l p hs=-(t,o)):t.led=l/\t.plain=p:=by
 unfold SetTable.laid at h
 cases e:SetTable.layClean m hs with
 | none=>rw[e]at h;cases h
 | some ow=>rw[e]at h;cases h;exact⟨rfl,rfl⟩
theorem ut (t:SetTable) (es:Array (Int × Value)) (n:Nat):(relayAll t es n).2.1.led=t.led/\(t.plain=false->(relayAll t es n).2.1.plain=false):=by
 unfold relayAll
 split
 ·rename_i t' o e
  obtain⟨e1,e2⟩:=wR e;dsimp only
  split
  ·exact{e1,λz=>e2.trans z}
  exact{rfl,λ_=>rfl}
 exact{rfl,λ_=>rfl}
def cN (prog:Program) (w:World) (h:Heap) (a:Addr) (S:Str->Bool) (n:Nat):Prop:=∃o es ep t,h.get? a=-o/\o.ExactSet/\o.data=.set es ep t/\ElemsOf (strKind prog w) es.toList/\(∀k,S k=true↔∃e∈es.toList,(strKind prog w).is k e.2=true)/\es.size<scanBound/\t.fits es.size=true/\es.size=n/\Led w t es.size
section
variable {prog:Program} {w:World} {A:Around} {E:J0} {s:Shared} {a:Addr} {S:Str->Bool} {n:Nat}
variable {es' es:Array (Int × Value)}
theorem cN.put {h:Heap} {o:Obj} {ep:Nat} {t:SetTable} (ho:h.get? a=-o) (hex:o.ExactSet) (hd:o.data=.set es ep t) {t':SetTable}
  (hel:ElemsOf (strKind prog w) es'.toList) (hm:∀k,S k=true↔∃e∈es'.toList,(strKind prog w).is k e.2=true) (hb:es'.size<scanBound) (hf:t'.fits es'.size=true) (hn:es'.size=n) (hl:Led w t' es'.size) :
  (h.update a (Obj.putSet es' t')).get? a=some { o with data:=.set es' (ep+1) t' }/\cN prog w (h.update a (Obj.putSet es' t')) a S n:=by
 obtain⟨g,_⟩:=SetOf_store (knd:=strKind prog w) ho hex hd hel hm hb hf;exact{g,_,es',ep+1,t',g,hex,rfl,hel,hm,hb,hf,hn,hl}
theorem yT {k:Str} {tok:Tok} {Q:Bool->Shared->Prop} (hS:cN prog w s.heap a S n) (hroom:n+1<scanBound)
  (h:∀h' b,Heap.SameBut a s.heap h'->cN prog w h' a (λk'=>S k' || decide (k'=k)) (if S k then n else n+1)->Q b { s with heap:=h' }) :
  wpAny (model prog w) A (setAddHashed a (.str k tok) ((strKind prog w).hash k)) Q E s:=by
 obtain⟨o,es,ep,t,ho,hex,hd,hel,hm,hb,hf,hn,hl⟩:=hS;have hkey:(strKind prog w).is k (.str k tok)=true:=strKind_is _ _ _ _;have hsc:(Value.str k tok).scannable=true:=rfl;unfold setAddHashed setAddHashedIn;refine Q3 (Qb (wpAny_setState_of ho hd hf ?_));dsimp only;rw[byScan_of hsc hb hel];simp only[↓reduceIte];unfold setAddByScan;refine Qb (Qb (XU (Qb (wpAny_setScan_of hkey ho hd hf hel ?_))))
 cases hr:List.findIdx? (λe=>(strKind prog w).is k e.2) es.toList with
 | some j =>
  dsimp only;obtain⟨hj,hpj,_⟩:=List.findIdx?_eq_some_iff_getElem.mp hr;have hk:S k=true:=(hm k).mpr {_,Xo hj,hpj};refine Qf (Qf (h s.heap _ (Heap.SameBut.refl a s.heap) {o,es,ep,t,ho,hex,hd,hel,λk'=>?_,hb,hf,by rw[hk];exact hn,hl}));rw[Bool.or_eq_true,decide_eq_true_eq,<-hm k'];exact{λz=>z.elim id λe=>e▸hk,.inl}
 | none =>
 dsimp only
 have hk:S k=false:=by
  cases hk:S k with
  | false=>rfl
  | true=>obtain⟨e,he,hp⟩:=(hm k).mp hk;have:=List.findIdx?_eq_none_iff.mp hr e he;rw[hp]at this;exact Bool.noConfusion this
 have hperm:=layNew_perm t es ((strKind prog w).hash k) (.str k tok);have hfits:=layNew_fits t es ((strKind prog w).hash k) (.str k tok);obtain⟨l1,l2⟩:=rV t es ((strKind prog w).hash k) (.str k tok);generalize hL:layNew t es ((strKind prog w).hash k) (.str k tok)=L at hperm hfits l1 l2 ⊢;obtain⟨es1,t1,wasDummy,gave⟩:=L;dsimp only at hperm hfits l1 l2 ⊢;rw[Array.toList_push]at hperm;have hel1:=(hel.push hkey hsc).perm hperm;have hm1:∀k',(S k' || decide (k'=k))=true↔∃e∈es1.toList,(strKind prog w).is k' e.2=true:=mem_push_iff hkey hm hperm;have hz:es1.size=n+1:=by rw[<-Qs,hperm.length_eq,Qk,Qs,hn];rfl
 have hb1:es1.size<scanBound:=by rw[hz];exact hroom
 rw[hk]at h
 have tail:∀(t2:SetTable) (s1:Shared) (g:Bool->Sem Unit),(∀(b:Bool) (s₁:Shared) (Q':Unit->Shared->Prop),Q' () s₁->wpAny (model prog w) A (g b) Q' E s₁)->s1=s->t2.fits es1.size=true->Led w t2 es1.size ->
   wpAny (model prog w) A (do
    storeSet a es1 t2
    if (!wasDummy&&t2.tooFull)=true then do
      g (relayAll t2 es1 (SetTable.grown es1.size)).2.2
      storeSet a (relayAll t2 es1 (SetTable.grown es1.size)).1 (relayAll t2 es1 (SetTable.grown es1.size)).2.1
      pure (-true)
     else pure (-true)) (λr s'=>∃h' b,r=-b/\s'={ s with heap:=h' }/\Heap.SameBut a s.heap h'/\cN prog w h' a (λk'=>S k' || decide (k'=k)) (n+1)) E s1:=λt2 s1 g hg e f2 d2=>by
  subst e;refine Qb (wpAny_storeSet_of ho hd ?_ (fits_of_scanBound hb1));obtain⟨ho1,q1⟩:=cN.put ho hex hd hel1 hm1 hb1 f2 hz d2;have k1:=XI s1.heap a (Obj.putSet es1 t2)
  split
  ·have hp:=relayAll_perm t2 es1 (SetTable.grown es1.size);have hfr:=relayAll_fits t2 es1 (SetTable.grown es1.size);obtain⟨r1,r2⟩:=ut t2 es1 (SetTable.grown es1.size);generalize hRl:relayAll t2 es1 (SetTable.grown es1.size)=Rl at hp hfr r1 r2 ⊢;obtain⟨es2,t3,gave2⟩:=Rl;dsimp only at hp hfr r1 r2 ⊢;have hz2:es2.size=es1.size:=by rw[<-Qs,hp.length_eq,Qs]
   refine Qb (hg _ _ _ (Qb (wpAny_storeSet_of ho1 rfl ?_ (fits_of_scanBound (by rw[hz2];exact hb1)))))
   obtain⟨_,q2⟩:=cN.put (S:=λk'=>S k' || decide (k'=k)) (n:=n+1) ho1 hex rfl (hel1.perm hp) (λk'=>(hm1 k').trans {λ⟨e,he,q⟩=>{e,hp.mem_iff.mpr he,q},λ⟨e,he,q⟩=>{e,hp.mem_iff.mp he,q} }) (by rw[hz2];exact hb1) hfr (hz2.trans hz)
    (d2.imp id λz=>{r1.trans z.1,λy=>r2 (z.2 (by rw[<-hz2];exact y))})
   exact Qf {_,true,rfl,rfl,k1.trans (XI _ a _),q2}
  exact Qf ⟨_,true,rfl,rfl,k1,q1⟩
 have fin:∀(r:Option Bool) (s':Shared),(∃h' b,r=-b/\s'={ s with heap:=h' }/\Heap.SameBut a s.heap h'/\cN prog w h' a (λk'=>S k' || decide (k'=k)) (n+1))->∃h' b,r=-b/\s'={ s with heap:=h' }/\Q b s':=λr s' ⟨h',b,e1,e2,e3,e4⟩=>{h',b,e1,e2,by rw[e2];exact h h' b e3 (~~~e4)}
 have gw:∀(b:Bool) {s₁:Shared} {Q':Unit->Shared->Prop},Q' () s₁->wpAny (model prog w) A (match b with|true=>rule "set.scan.the-table-gave-way" | false=>pure ()) Q' E s₁ :=
  λb s₁ Q' hq=>by cases b <;> first|exact Qf hq|exact XU hq
 refine Qb (gw _ ?_)
 split
 ·refine Qb ?_;rw[hashByValue_scannable 8 hsc];refine Qf ?_;refine Xr (tail _ s _ ?_ rfl ?_ ?_) (λr s' z=>?_) λ_ _ z=>z
  ·intro b s₁ Q' hq;cases b <;> first|exact Qf hq|exact XU hq
  ·exact SetTable.fits_plain_off hfits
  ·exact hl.imp id λz=>{l1.trans z.1,λ_=>rfl}
  obtain⟨h',b,rfl,rfl,q⟩:=fin r s' z;exact Qf q
 rename_i hp
 refine Qb (Qf ?_);simp only[↓reduceIte];refine Xr (tail _ s _ ?_ rfl hfits ?_) (λr s' z=>?_) λ_ _ z=>z
 ·intro b s₁ Q' hq;cases b <;> first|exact Qf hq|exact XU hq
 ·exact hl.imp id λz=>{l1.trans z.1,λ_=>by simpa using hp}
 obtain⟨h',b,rfl,rfl,q⟩:=fin r s' z;exact Qf q
theorem cN.congr {h:Heap} {S':Str->Bool} {m:Nat} (q:cN prog w h a S n) (e:∀k,S k=S' k) (f:n=m):cN prog w h a S' m:=by
 obtain⟨o,es,ep,t,h1,h2,h3,h4,h5,h6,h7,h8,h9⟩:=q;exact{o,es,ep,t,h1,h2,h3,h4,λk=>by rw[<-e k];exact h5 k,h6,h7,h8.trans f,h9}
abbrev bare (led:Bool):Obj:={ cls:=.type "set", dict:=none,data:=.set #[] 0 (.fresh 0 0 led) }
theorem cN.bare {h:Heap} (g:h.get? a=-(bare !(w.params.followText "set-order"))):cN prog w h a (λ_=>false) 0 :=
 {_,#[],0,_,g,⟨rfl,rfl,rfl⟩,rfl,fun e he=>by simp at he,fun k=>by simp,by decide,rfl,rfl,by
  unfold Led
  cases e:w.params.followText "set-order" with
  | true=>exact .inl rfl
  | false=>exact .inr {rfl,λz=>absurd rfl z} }
theorem xy (x:Value) {Q₁:J0} (h:Q₁ (.ref s.heap.objs.size) { s with heap:=s.heap.push (LS.bare !(w.params.followText "set-order")) }) :
  codeAny (model prog w) A (.call (.builtin "set.__new__") {[.type "set", x],[]}) (wants Q₁ E) s:=by
 refine codeAny_of_tree ?_;show wpAny _ A.in1 (do checkBuiltinCall "set.__new__" {[.type "set", x],[]};again (.builtin "set.__new__" {[.type "set", x],[]})) _ _ s;refine Qb (wpAny_of_eq (F.newCall_set_1 x) (Qf {plainId_quiet F.plain_set_new _,Xu F.entry_set_new ?_}));rw[Xh F.plain_set_new _];unfold Builtin.«set.__new__» Builtin.Frozenset.newClass;have hsub:=sub_set_self;obtain⟨hp,g,d,tk,os⟩:=s;dsimp only
 wp_walk
 refine wpAny_askSetting (Qf ?_);dsimp only;simp only[newObj];exact Qb (wpAny_alloc (Qf (Qf h)))
end
theorem c_:Slot "set_iterator" "__next__" "set_iterator.__next__" :=
 .of (owner := "set_iterator") (n := "__next__") (by rw[typeLookup_type,XQ];kernel_rfl) (by decide +kernel) (by decide +kernel) (by decide +kernel)
  (by first|exact .inl (by decide +kernel)|exact .inr (by decide +kernel)) (by rw[isSubtype_type];kernel_rfl)
theorem ij:Slot "set_iterator" "__iter__" "set_iterator.__iter__" :=
 .of (owner := "set_iterator") (n := "__iter__") (by rw[typeLookup_type,XQ];kernel_rfl) (by decide +kernel) (by decide +kernel) (by decide +kernel)
  (by first|exact .inl (by decide +kernel)|exact .inr (by decide +kernel)) (by rw[isSubtype_type];kernel_rfl)
theorem ma:entryFor table "set_iterator.__next__" = some Builtin.«set_iterator.__next__»:=entryFor_of_tree (by kernel_rfl)
theorem me:entryFor table "set_iterator.__iter__" = some Builtin.«dict_keyiterator.__iter__»:=entryFor_alias (id' := "dict_keyiterator.__iter__") (by kernel_rfl) rfl (by decide +kernel) (by kernel_rfl)
theorem kX:entryFor table "set.__iter__" = some Builtin.«frozenset.__iter__»:=entryFor_alias (id' := "frozenset.__iter__") (by kernel_rfl) rfl (by decide +kernel) (by kernel_rfl)
theorem qh:Manifest.owners.lookup (String.ofList ['r','o','t','a','r','e','t','i','_','t','e','s'].reverse)=-Manifest.sig_set_iterator:=by kernel_rfl
theorem oR (a:Value):argsOk "set_iterator.__next__" {[a],[]}:=by
 unfold argsOk;rw[signature?_of (id := "set_iterator.__next__") (n:=['_','_','t','x','e','n','_','_']) (o:=['r','o','t','a','r','e','t','i','_','t','e','s']) (by kernel_rfl) qh];kernel_rfl
theorem oS (a:Value):argsOk "set_iterator.__iter__" {[a],[]}:=by
 unfold argsOk;rw[signature?_of (id := "set_iterator.__iter__") (n:=['_','_','r','e','t','i','_','_']) (o:=['r','o','t','a','r','e','t','i','_','t','e','s']) (by kernel_rfl) qh];kernel_rfl
def gk (h:Heap) (it a:Addr) (first:Value) (i n ep:Nat):Prop:=∃o,h.get? it=-o/\o.cls=.type "set_iterator" /\ o.data=.fields #[first,.int i 0,.ref a,.int n 0,.int ep 0]
def e_ (h:Heap) (a:Addr) (es:Array (Int × Value)) (ep:Nat) (t:SetTable):Prop:=∃o,h.get? a=-o/\o.data=.set es ep t/\o.cls=.type "set" /\ t.fits es.size=true
section
variable {prog:Program} {w:World} {A:Around} {E:J0} {s:Shared} {a it:Addr} {es:Array (Int × Value)} {ep:Nat} {t:SetTable} {i:Nat} {first:Value}
variable {n:Nat}
theorem gk.typeIs (h:gk s.heap it a first i n ep):s.TypeIs (.ref it) "set_iterator" := let ⟨o,ho,hc,_⟩:=h;⟨o,ho,hc⟩
theorem gk.at {h h':Heap} (x:gk h it a first i n ep) (e:∀o,h.get? it=-o->h'.get? it=-o):gk h' it a first i n ep:=let ⟨o,ho,r⟩:=x;{o,e _ ho,r}
theorem e_.at {h h':Heap} (x:e_ h a es ep t) (e:∀o,h.get? a=-o->h'.get? a=-o):e_ h' a es ep t:=let ⟨o,ho,r⟩:=x;{o,e _ ho,r}
theorem oz {Q:J0} (hit:gk s.heap it a first i n ep) (h:Q (.ref it) s):wpAny (model prog w) A (pyIter (.ref it)) Q E s:=by
 refine wpAny_pyIter_slot hit.typeIs ij (XH ij hit.typeIs me ?_ (oS _));show wpAny _ _ (ret (.ref it)) _ _ s;exact Qf {_,rfl, "set_iterator", _,hit.typeIs,c_.lookup,h}
variable {Q:Option Value->Shared->Prop}
theorem jB (hit:gk s.heap it a first i n ep) (h:wpAny (model prog w) A.in1 (Builtin.«set_iterator.__next__» {[.ref it],[]}) (λfin s'=>∃v,fin=Fin.done (Flow.ret v)/\wpAny (model prog w) A (pure (-v)) Q E s')
   (λe s'=>wpAny (model prog w) A (isInstance e (Value.type "StopIteration") >>= λb=>if b=true then pure none else throw e) Q E s') s):wpAny (model prog w) A (pyNext (.ref it)) Q E s :=
 Qb (wpAny_attempt (XY (name:=Str.ofString "__next__") hit.typeIs c_ (XH c_ hit.typeIs ma h (oR _))))
theorem zh {h1:Heap} (hh:A.handled=none) (k:Heap.ExtBut it s.heap h1) (h:∀h',Heap.ExtBut it s.heap h'->Q none { s with heap:=h' }) :
  wpAny (model prog w) A.in1 (newExc (Value.type "StopIteration") [] >>= λe=>raiseNew (α:=Fin) e) (λfin s'=>∃v,fin=Fin.done (Flow.ret v)/\wpAny (model prog w) A (pure (-v)) Q E s')
   (λe s'=>wpAny (model prog w) A (isInstance e (Value.type "StopIteration") >>= λb=>if b=true then pure none else throw e) Q E s') { s with heap:=h1 }:=by
 refine Qb ?_;simp only[newExc,newTuple];refine Qb (wpAny_newObj_type ?_ (by size_fits));refine Qb (m:=firstArgMember _ _) (wpAny_of_eq (a:=Value.none) (by first|rfl|(simp only[firstArgMember];rfl)) ?_);refine wpAny_newObj_type ?_ (by size_fits);simp only[raiseNew];refine Qb (wpAny_handled ?_);rw[show A.in1.handled=none from hh];refine Qb (Qf (wpAny_throw ?_));refine Qb (wpAny_isInstance (T := "StopIteration") (b:=true) {_,Qr _ rfl,rfl} isSubtype_stop ?_);exact Qf (h _ ((k.push _).push _))
theorem mK {slot next:Nat} {x:Value} (hit:gk s.heap it a (.int slot 0) i es.size ep) (hs:e_ s.heap a es ep t)
  (hw:∀(Q:Option (Value × Nat)->Shared->Prop) (E:J0),Q (-(x,next)) s->wpAny (model prog w) A.in1 (setNext a slot i ep) Q E s)
  (h:∀h',gk h' it a (.int next 0) (i+1) es.size ep->Heap.SameBut it s.heap h'->Q (-x) { s with heap:=h' }):wpAny (model prog w) A (pyNext (.ref it)) Q E s:=by
 obtain⟨o,ho,hc,hd⟩:=id hit;obtain⟨os,hos,hds,_,hf⟩:=id hs;refine jB hit ?_;unfold Builtin.«set_iterator.__next__»;refine Qb (Qf (Qb (wpAny_fieldsOf ho hd ?_)));dsimp only;refine Qb (wpAny_setEntries_of hos hds hf ?_);rw[QE (by simp)];refine Qb (hw _ _ ?_);dsimp only;refine Qb (wpAny_setField ho hd (by simp) ?_);have h1:=XO (Obj.mapFields (·.setIfInBounds 0 (rawInt (next:Int)))) ho (Obj.isFreed_of_fields (XV hd _));have d1:=XV hd (·.setIfInBounds 0 (rawInt (next:Int)));refine Qb (wpAny_setField h1 d1 (by simp) ?_);refine Qf {_,rfl,Qf (h _ {_,XO _ h1 (Obj.isFreed_of_fields (XV d1 _)),(Obj.cls_mapFields ..).trans ((Obj.cls_mapFields ..).trans hc),by rw[XV d1];simp[rawInt]} ((XI ..).trans (XI ..)))}
theorem mL {slot:Nat} (hh:A.handled=none) (hit:gk s.heap it a (.int slot 0) i es.size ep) (hs:e_ s.heap a es ep t)
  (hw:∀(Q:Option (Value × Nat)->Shared->Prop) (E:J0),Q none s->wpAny (model prog w) A.in1 (setNext a slot i ep) Q E s)
  (h:∀h',Heap.ExtBut it s.heap h'->Q none { s with heap:=h' }):wpAny (model prog w) A (pyNext (.ref it)) Q E s:=by
 obtain⟨o,ho,hc,hd⟩:=id hit;obtain⟨os,hos,hds,_,hf⟩:=id hs;refine jB hit ?_;unfold Builtin.«set_iterator.__next__»;refine Qb (Qf (Qb (wpAny_fieldsOf ho hd ?_)));dsimp only;refine Qb (wpAny_setEntries_of hos hds hf ?_);rw[QE (by simp)];refine Qb (hw _ _ ?_);dsimp only;refine Qb (wpAny_setField ho hd (by simp) ?_);exact zh hh (XI ..).extBut h
theorem sf {tp:Addr} {pl:List Nat} {p:Nat} {e:Int × Value} (hit:gk s.heap it a (.ref tp) i es.size ep) (hs:e_ s.heap a es ep t) (ht:s.heap.get? tp=some { cls:=.type "tuple", data:=.seq (pl.map λ(i:Nat)=>rawInt i).toArray })
  (hp:pl[i]?=-p) (he:es[p]?=-e) (h:∀h',gk h' it a (.ref tp) (i+1) es.size ep->Heap.SameBut it s.heap h'->Q (-e.2) { s with heap:=h' }):wpAny (model prog w) A (pyNext (.ref it)) Q E s:=by
 obtain⟨o,ho,hc,hd⟩:=id hit;obtain⟨os,hos,hds,_,hf⟩:=id hs;refine jB hit ?_;unfold Builtin.«set_iterator.__next__»;refine Qb (Qf (Qb (wpAny_fieldsOf ho hd ?_)));dsimp only;refine Qb (wpAny_setEntries_of hos hds hf ?_);rw[QE (by simp)];refine Qb (wpAny_seqItems ht rfl ?_);dsimp only;rw[show (List.map (λ(i:Nat)=>rawInt (i:Int)) pl).toArray[(i:Int).toNat]?=-rawInt (p:Int) by rw[Xq,List.getElem?_toArray,Qi,hp];rfl];dsimp only[rawInt];unfold setNextDrawn;refine Qb (Qb (wpAny_setState_of hos hds hf ?_));dsimp only;rw[QE (by simp),Xq,he];refine Qb (Qf (Qf ?_));refine Qb (wpAny_setField ho hd (by simp) ?_);exact Qf {_,rfl,Qf (h _ {_,XO _ ho (Obj.isFreed_of_fields (XV hd _)),(Obj.cls_mapFields ..).trans hc,by rw[XV hd];simp} (XI ..))}
theorem si {tp:Addr} {pl:List Nat} (hh:A.handled=none) (hit:gk s.heap it a (.ref tp) i es.size ep) (hs:e_ s.heap a es ep t) (ht:s.heap.get? tp=some { cls:=.type "tuple", data:=.seq (pl.map λ(i:Nat)=>rawInt i).toArray })
  (hp:pl[i]?=none) (h:∀h',Heap.ExtBut it s.heap h'->Q none { s with heap:=h' }):wpAny (model prog w) A (pyNext (.ref it)) Q E s:=by
 obtain⟨o,ho,hc,hd⟩:=id hit;obtain⟨os,hos,hds,_,hf⟩:=id hs;refine jB hit ?_;unfold Builtin.«set_iterator.__next__»;refine Qb (Qf (Qb (wpAny_fieldsOf ho hd ?_)));dsimp only;refine Qb (wpAny_setEntries_of hos hds hf ?_);rw[QE (by simp)];refine Qb (wpAny_seqItems ht rfl ?_);dsimp only;have en:(List.map (λ(i:Nat)=>rawInt (i:Int)) pl).toArray[(i:Int).toNat]?=none:=by rw[Xq,List.getElem?_toArray,Qi,hp,Option.map_none]
 rw[en];dsimp only;refine Qb (wpAny_setField ho hd (by simp) ?_);have h1:=XO (Obj.mapFields (·.setIfInBounds 0 (rawInt 0))) ho (Obj.isFreed_of_fields (XV hd _));have d1:=XV hd (·.setIfInBounds 0 (rawInt 0));refine Qb (wpAny_setField h1 d1 (by simp) ?_);have k2:Heap.ExtBut it s.heap ((s.heap.update it (Obj.mapFields (·.setIfInBounds 0 (rawInt 0)))).update it (Obj.mapFields (·.setIfInBounds 2 .none))):=((XI s.heap it _).trans (XI _ it _)).extBut;exact zh (s:=s) (it:=it) (h1:=(s.heap.update it (Obj.mapFields (·.setIfInBounds 0 (rawInt 0)))).update it (Obj.mapFields (·.setIfInBounds 2 .none))) hh k2 h
end
end LS
set_option maxHeartbeats 400000
namespace LS
open PySem PySem.Spec PyProof.Rows
theorem hV {α:Type}:∀{l:List α} {i:Nat} (h:i<l.length),(l[i]::l.eraseIdx i).Perm l
 | a::l,0,_=>.refl _
 | a::l,i+1,h=>by
  have hi:i<l.length:=by simpa using h
  have q:=hV (l:=l) (i:=i) hi;show (l[i]::a::l.eraseIdx i).Perm (a::l);exact(List.Perm.swap _ _ _).trans (q.cons a)
theorem sZ {α:Type} (next:Nat->Nat):∀(fuel k:Nat) (left:List α) (out:Array α),left.length=fuel->(pickOrder.go next fuel k left out).toList.Perm (out.toList++left)
 | 0,k,left,out,h=>by
  obtain rfl:left=[]:=Xb.mp h;simp[pickOrder.go]
 | fuel+1,k,left,out,h=>by
  have lt:next k % left.length<left.length:=Nat.mod_lt _ ⋯;have e:left[next k % left.length]?=some left[next k % left.length]:=Qc lt;unfold pickOrder.go;rw[e];refine(sZ next fuel (k+1) _ _ (by rw[List.length_eraseIdx_of_lt lt];omega)).trans ?_;rw[Array.toList_push,Xa];exact List.Perm.append_left _ (hV lt)
theorem iN {α:Type} (next:Nat->Nat) (xs:Array α):(pickOrder next xs).toList.Perm xs.toList:=by
 have:=sZ next xs.size 0 xs.toList #[] (by simp);unfold pickOrder;simpa using this
section
variable {prog:Program} {w:World} {A:Around} {E:J0} {s:Shared} {a it:Addr} {es:Array (Int × Value)} {ep:Nat} {t:SetTable} {i:Nat}
theorem ni {src:Source} {n:Nat} {Q:Nat->Shared->Prop} (hn:n≠0) (h:∀i d,i<n->Q i { s with drawn:=d }):wpAny (model prog w) A (choose src n) Q E s:=λΓ p hΓ=>by
 show Sem.wp (model prog w) Γ (.choose src n .pure) _ _ p s;rw[Sem.wp_choose];refine{hn,?_};rw[Sem.wp_pure];exact h _ _ (Nat.mod_lt _ (Nat.pos_of_ne_zero hn))
theorem fM {α:Type}:∀(n:Nat) (xs:List α) (s:Shared) (Q:List α->Shared->Prop),xs.length=n->(∀ys d,ys.Perm xs->Q ys { s with drawn:=d })->wpAny (model prog w) A (drawOrder n xs) Q E s
 | 0,xs,s,Q,h,q=>by
  obtain rfl:xs=[]:=Xb.mp h;exact Qf (q [] s.drawn .nil)
 | n+1,[],s,Q,h,q=>by cases h
 | n+1,x::xs,s,Q,h,q=>by
  unfold drawOrder;refine Qb (ni (by simp) λi d hi=>?_);rw[Qc hi];dsimp only;refine Qb (fM n _ _ _ (by rw[List.length_eraseIdx_of_lt hi];simp at h ⊢;omega) λys d2 pm=>Qf (q _ d2 ?_));exact(List.Perm.cons _ pm).trans (hV hi)
variable {Q:Option (Value × Nat)->Shared->Prop}
theorem mJ {slot:Nat} (ht:w.params.followText "set-order" = true) (hs:e_ s.heap a es ep t) (h:Q (((pickOrder (w.params.setOrder a ep) es)[i]?).map λe=>(e.2,slot)) s):wpAny (model prog w) A (setNext a slot i ep) Q E s:=by
 obtain⟨os,hos,hds,_,hf⟩:=id hs;unfold setNext setsByText;refine Qb (wpAny_setState_of hos hds hf ?_);dsimp only;refine Qb (Qb (wpAny_askSetting (Qf ?_)));rw[QF (show (Setting.params {(model prog w).prog,(model prog w).w.params}).followText "set-order" = true from ht),QE (by simp)];unfold setWalk setsByText;refine Qb (Qb (wpAny_setState_of hos hds hf ?_));dsimp only;refine Qb (Qb (wpAny_askSetting (Qf ?_)));rw[QF (show (Setting.params {(model prog w).prog,(model prog w).w.params}).followText "set-order" = true from ht)];refine Qb (wpAny_askSetting (Qf ?_));exact Qf h
theorem qp {slot:Nat} (ht:w.params.followText "set-order" = false) (hs:e_ s.heap a es ep t) (h1:es.size<=1) (hl:t.led=true)
  (h:Q (match es[SetTable.below t.place slot]?,t.place[SetTable.below t.place slot]? with|some (_,x),some j=>some (x,j+1)|_,_=>none) s):wpAny (model prog w) A (setNext a slot i ep) Q E s:=by
 obtain⟨os,hos,hds,_,hf⟩:=id hs;unfold setNext setsByText;refine Qb (wpAny_setState_of hos hds hf ?_);dsimp only;refine Qb (Qb (wpAny_askSetting (Qf ?_)));rw[QE (show ¬(Setting.params {(model prog w).prog,(model prog w).w.params}).followText "set-order" = true by rw[show (Setting.params {(model prog w).prog,(model prog w).w.params}).followText "set-order" = false from ht];exact Qn)];refine wpAny_ite_split (λhab=>?_) λ_=>?_
 ·have hab:(!t.plain&&decide (es.size>1))=true:=hab;simp at hab;omega
 refine Qb ?_;show wpAny _ _ (if (!t.led&&!es.isEmpty)=true then unsupported "set:maker-not-led" else pure ()) _ _ _;rw[QE (by rw[hl];simp)];exact Qf (Qf h)
theorem qT (hh:A.handled=none) (ht:w.params.followText "set-order" = true) (I:Addr) (ne:a≠I):Walks prog w A I [I,a] [I] es.size (λi v=>∃e,(pickOrder (w.params.setOrder a ep) es).toList[i]?=-e/\v=e.2) (λi h=>gk h I a (.int 0 0) i es.size ep/\e_ h a es ep t) where
 sub:=λb hb=>by simp at hb;simp[hb]
 frame:=λ_ _ _ st hk=>{st.1.at λo e=>hk I (by simp) o e,st.2.at λo e=>hk a (by simp) o e}
 item:=λi s Q E hi st hQ=>by
  have z:(pickOrder (w.params.setOrder a ep) es).size=es.size:=by simpa using(iN (w.params.setOrder a ep) es).length_eq
  obtain⟨e,he⟩:∃e,(pickOrder (w.params.setOrder a ep) es)[i]?=some e:={_,Q7 (by rw[z];exact hi)};refine mK (slot:=0) (next:=0) (x:=e.2) st.1 st.2 (λQ E q=>mJ ht st.2 (by rw[he];exact q)) λh' hit' hs'=>?_;exact hQ _ h' s.toks {e,by rw[QA];exact he,rfl} {hit',st.2.at λo e=>hs'.extBut a o ne e} λb o hb e=>hs'.extBut b o (λh=>hb (by simp[h])) e
 done:=λs Q E st hQ=>by
  have z:(pickOrder (w.params.setOrder a ep) es).size=es.size:=by simpa using(iN (w.params.setOrder a ep) es).length_eq
  exact mL (slot:=0) hh st.1 st.2 (λQ E q=>mJ ht st.2 (by rw[Array.getElem?_eq_none (by rw[z];exact Qh _)];exact q)) λh' he'=>hQ h' s.toks λb o hb e=>he' b o (λh=>hb (by simp[h])) e
 self:=λ_ _ _ _ st hQ=>oz st.1 hQ
theorem o_ (hh:A.handled=none) (I tp:Addr) (pl:List Nat) (hp:pl.Perm (List.range es.size)) (ne:a≠I) (nt:tp≠I):Walks prog w A I [I,a,tp] [I] es.size (λi v=>∃e,(pl.filterMap λj=>es[j]?)[i]?=-e/\v=e.2)
  (λi h=>gk h I a (.ref tp) i es.size ep/\e_ h a es ep t/\h.get? tp=some { cls:=.type "tuple", data:=.seq (pl.map λ(i:Nat)=>rawInt i).toArray }) where
 sub:=λb hb=>by simp at hb;simp[hb]
 frame:=λ_ _ _ st hk=>{st.1.at λo e=>hk I (by simp) o e,st.2.1.at λo e=>hk a (by simp) o e,hk tp (by simp) _ st.2.2}
 item:=λi s Q E hi st hQ=>by
  have pz:pl.length=es.size:=by simpa using hp.length_eq
  have lt:i<pl.length:=by omega
  have all:∀j∈pl,∃e,es[j]?=-e:=λj hj=>{_,Q7 (~~~(hp.mem_iff.mp hj))};obtain⟨e,he⟩:=all pl[i] (Xo lt)
  have fm:∀(l:List Nat) (i:Nat) (h:i<l.length),(∀j∈l,∃e,es[j]?=-e)->(l.filterMap λj=>es[j]?)[i]?=es[l[i]]?:=by
   intro l
   induction l with
   | nil=>intro i h;simp at h
   | cons x l ih =>
   intro i h al;obtain⟨e,he⟩:=al x Xk;rw[List.filterMap_cons_some he]
   cases i with
   | zero=>rw[List.getElem?_cons_zero];exact he.symm
   | succ i=>rw[List.getElem?_cons_succ];exact ih i (~~~h) λj hj=>al j (Qx _ hj)
  refine sf (p:=pl[i]) st.1 st.2.1 st.2.2 (Qc lt) he λh' hit' hs'=>?_;exact hQ _ h' s.toks {e,by rw[fm pl i lt all];exact he,rfl} {hit',st.2.1.at λo e=>hs'.extBut a o ne e,hs'.extBut tp _ nt st.2.2} λb o hb e=>hs'.extBut b o (λh=>hb (by simp[h])) e
 done:=λs Q E st hQ=>by
  have pz:pl.length=es.size:=by simpa using hp.length_eq
  exact si hh st.1 st.2.1 st.2.2 (Xd ⋯) λh' he'=>hQ h' s.toks λb o hb e=>he' b o (λh=>hb (by simp[h])) e
 self:=λ_ _ _ _ st hQ=>oz st.1 hQ
theorem ng (j k:Nat):SetTable.below #[j] k=if j<k then 1 else 0:=by
 unfold SetTable.below;simp[SetTable.below.go]
theorem uc (hh:A.handled=none) (ht:w.params.followText "set-order" = false) (h1:es.size<=1) (hl:t.led=true) (I:Addr) (ne:a≠I):Walks prog w A I [I,a] [I] es.size (λi v=>∃e,es.toList[i]?=-e/\v=e.2)
  (λi h=>(∃slot:Nat,gk h I a (.int slot 0) i es.size ep/\(i=0->slot=0)/\(i=1->∃j,t.place=#[j]/\slot=j+1))/\e_ h a es ep t) where
 sub:=λb hb=>by simp at hb;simp[hb]
 frame:=λ_ _ _ st hk=>let ⟨⟨sl,x,y⟩,z⟩:=st;{ {sl,x.at λo e=>hk I (by simp) o e,y},z.at λo e=>hk a (by simp) o e}
 item:=λi s Q E hi st hQ=>by
  obtain⟨⟨sl,x,y,_⟩,z⟩:=st;obtain rfl:i=0:=by omega
  obtain rfl:=y rfl;have e1:es.size=1:=by omega
  obtain⟨os,hos,hds,_,hf⟩:=id z;have pz:t.place.size=1:=by simp[SetTable.fits]at hf;omega
  obtain⟨j,hj⟩:=Array.size_eq_one_iff.mp pz;obtain⟨e,he⟩:=Array.size_eq_one_iff.mp e1;refine mK (slot:=0) (next:=j+1) (x:=e.2) x z (λQ E q=>qp ht z h1 hl (by rw[hj,ng];simp[he];exact q)) λh' hit' hs'=>?_;exact hQ _ h' s.toks {e,by rw[he];rfl,rfl} { {j+1,hit',λq=>by omega,λ_=>⟨j,hj,rfl⟩},z.at λo e=>hs'.extBut a o ne e} λb o hb e=>hs'.extBut b o (λh=>hb (by simp[h])) e
 done:=λs Q E st hQ=>by
  obtain⟨⟨sl,x,y1,y2⟩,z⟩:=st;refine mL hh x z (λQ E q=>qp ht z h1 hl ?_) λh' he'=>hQ h' s.toks λb o hb e=>he' b o (λh=>hb (by simp[h])) e;by_cases e1:es.size=1
  ·obtain⟨j,hj,rfl⟩:=y2 e1;rw[hj,ng];simpa[e1] using q
  have e0:es=#[]:=by simpa using(show es.size=0 by omega)
  subst e0;simpa using q
 self:=λ_ _ _ _ st hQ=>oz st.1.choose_spec.1 hQ
end
end LS
set_option maxHeartbeats 4000000
namespace LS
open PySem PySem.Spec PyProof.Rows
def met (g:Nat->Str):Nat->List Str
 | 0=>[]
 | i+1=>if g i∈met g i then met g i else met g i++[g i]
theorem wP (g:Nat->Str):∀i,(met g i).length<=i
 | 0=>Qh _
 | i+1=>by
  have q:=wP g i;show (if g i∈met g i then met g i else met g i++[g i]).length<=i+1
  split
  ·omega
  simp;omega
theorem oq (g:Nat->Str) (x:Str):∀i,x∈met g i↔∃j,j<i/\g j=x
 | 0=>by simp[met]
 | i+1=>by
  have q:=oq g x i
  have e:x∈met g (i+1)↔x∈met g i\/x=g i:=by
   show x∈(if g i∈met g i then met g i else met g i++[g i])↔_;by_cases h:g i∈met g i
   ·rw[QF h];exact{.inl,λz=>z.elim id λz=>z▸h}
   rw[QE h];simp
  rw[e,q]
  constructor
  ·rintro(⟨j,a,b⟩|a)
   ·exact{j,⋯,b}
   exact{i,⋯,a.symm}
  rintro⟨j,a,b⟩;rcases Nat.lt_succ_iff_lt_or_eq.mp a with c|c
  ·exact .inl ⟨j,c,b⟩
  subst c;exact .inr b.symm
section
variable {prog:Program} {w:World} {A:Around} {R:Result->Shared->Prop} {I S:Addr} {fp wr:J7} {G:Array GenState->Array GenState->Prop} {n:Nat} {P:Nat->Value->Prop} {St:Nat->Shared->Prop}
abbrev jl (prog:Program) (w:World) (h:Heap) (S:Addr) (g:Nat->Str) (i:Nat):Prop:=cN prog w h S (λx=>decide (x∈met g i)) (met g i).length
theorem jl.at {h h':Heap} {g:Nat->Str} {i:Nat} (q:jl prog w h S g i) (k:∀o,h.get? S=-o->h'.get? S=-o):jl prog w h' S g i:=by
 obtain⟨o,es,ep,t,e,r⟩:=q;exact{o,es,ep,t,k _ e,r}
theorem vQ (W:WalksS prog w A.in1 I fp wr G n P St) (nS:S∉fp) (g:Nat->Str) (hg:∀i v,P i v->∃t,v=.str (g i) t) (hb:∀i,i<n->(met g i).length+1<scanBound) :
  ∀(m i:Nat) (s:Shared),n-i=m->i<=n->St i s->jl prog w s.heap S g i->(∀s',Moved (S::wr) G s s'->jl prog w s'.heap S g n->R (.ok (.ret .none)) s') ->
   codeAny (model prog w) A (.builtin "set.update.loop" {[.ref S,.ref I],[]}) R s:=by
 have nW:S∉wr:=λz=>nS (W.sub _ z);have more:∀b∈wr,b∈S::wr:=λb z=>Qx _ z;intro m
 induction m with
 | zero =>
  intro i s em hi st q fin;obtain rfl:i=n:=by omega
  refine Xu F.entry_set_update_loop ?_;rw[Xh F.plain_set_update_loop _];show wpAny _ A.in1 (pyNext (.ref I) >>= _) _ _ s;exact Qb (W.done s _ _ st λs1 mv=>Qf (fin s1 (mv.mono more) (q.at λo e=>mv.heap S _ nW e)))
 | succ m ih =>
 intro i s em hi st q fin;have lt:i<n:=by omega
 refine Xu F.entry_set_update_loop ?_;rw[Xh F.plain_set_update_loop _];show wpAny _ A.in1 (pyNext (.ref I) >>= _) _ _ s;refine Qb (W.item i s _ _ lt st λv s1 hP st1 mv=>?_);obtain⟨t,rfl⟩:=hg i v hP;have q1:=q.at λo e=>mv.heap S _ nW e;show wpAny _ A.in1 (holding [Value.str (g i) t] (setAdd S (.str (g i) t)) >>= _) _ _ s1;refine Qb (Q3 ?_);unfold setAdd;refine Q3 (Qb ((strKind prog w).pyHash (k:=g i) (strKind_is _ _ _ _) ?_));have room:=hb i lt;refine yT (s:={ s1 with toks:=s1.toks+1 }) q1 room λh2 _ sb q2=>?_
 have q3:jl prog w h2 S g (i+1):=by
  refine cN.congr q2 (λx=>?_) ?_
  ·show (decide (x∈met g i) || decide (x=g i))=decide (x∈(if g i∈met g i then met g i else met g i++[g i]));by_cases z:g i∈met g i
   ·rw[QF z];by_cases y:x=g i
    ·subst y;simp[z]
    simp[y]
   rw[QE z];simp
  show (if decide (g i∈met g i)=true then _ else _)=(if g i∈met g i then met g i else met g i++[g i]).length;by_cases z:g i∈met g i
  ·simp[z]
  simp[z]
 refine Qf {plainId_quiet F.plain_set_update_loop _,ih (i+1) _ ⋯ lt (W.frame _ s1 _ _ st1 (Nat.le_succ _) λb z o e=>?_) q3 λs3 mv3 q4=>?_}
 ·rw[sb.2 b (λy:b=S=>nS (by rw[<-y];exact z))];exact e
 refine fin s3 (Moved.trans W.gtrans ((mv.mono more).then_heap (Nat.le_succ _) λb o z e=>?_) mv3) q4;rw[sb.2 b (λy:b=S=>z (by rw[y];exact Xk))];exact e
end
section
variable {prog:Program} {w:World} {A:Around} {E:J0} {s:Shared}
theorem oF {l:Addr} {its:Array Value} {g:Nat->Str} {Q:J0} (hh:A.handled=none) (hl:s.heap.IsList l its) (hi:∀(i:Nat) (v:Value),its[i]?=-v->∃t,v=.str (g i) t) (hb:∀i,i<its.size->(met g i).length+1<scanBound)
  (h:∀(h1:Heap) (tk:Nat),jl prog w h1 s.heap.objs.size g its.size->(∀b o,s.heap.get? b=-o->h1.get? b=-o)->Q (.ref s.heap.objs.size) { s with heap:=h1,toks:=tk }) :
  wpAny (model prog w) A (call (.type "set") [.ref l]) Q E s:=by
 obtain⟨cl,tl,mro⟩:=F.called_set.mro;have y1:=F.called_set.made;have y2:=F.called_set.sub;refine wpAny_call (codeAny_of_tree ?_);show wpAny _ _ (callAny (.type "set") {[.ref l],[]}) _ _ _;refine Qf {Code.quiet_builtin _ (by decide +kernel),Xu F.entry_type_call ?_};rw[Around.under_plain (weight_type_call_type "set" [.ref l] []) rfl];have y3:=F.called_set.notType;have y4:=F.called_set.canCreate;have y5:=F.typeCall_set_1 (.ref l)
 repeat (any_goals (first|assumption|wp_step))
 refine codeAny_mono (xy (.ref l) (E:=E) (Q₁:=λv s1=>∃led:Bool,led=!(w.params.followText "set-order")/\v=.ref s.heap.objs.size/\s1={ s with heap:=s.heap.push (bare led) }) ⟨_,rfl,rfl,rfl⟩) λr s1 hr=>?_
 cases r with
 | error e=>exact hr
 | ok fl =>
 cases fl with
 | ret obj =>
  obtain⟨led,hled,rfl,rfl⟩:=hr;have hS:(s.heap.push (bare led)).get? s.heap.objs.size=-bare led:=Qr _ rfl;have hT:Shared.TypeIs { s with heap:=s.heap.push (bare led) } (.ref s.heap.objs.size) "set" := ⟨_,hS,rfl⟩;have y6:=F.called_set.init.lookup;have y7:=F.called_set.init.bind (.ref s.heap.objs.size)
  repeat (any_goals (first|assumption|wp_step))
  refine codeAny_mono (codeAny_call_builtin (R:=wants (λv s2=>v=.none/\∃h1 tk,s2={ s with heap:=h1,toks:=tk }/\jl prog w h1 s.heap.objs.size g its.size/\∀b o,s.heap.get? b=-o->h1.get? b=-o) E) F.called_set.init.plain F.entry_set_init (check_set_init_1 hT ?_)) λr2 s2 hr2=>?_
  ·obtain⟨ol,hol,hcl,nl,hdl⟩:=hl;obtain⟨ocls,odict,odata,oslots⟩:=ol;simp only at hcl hdl;subst hcl;subst hdl;have hol1:(s.heap.push (bare led)).get? l=some { cls:=.type "list", dict:=odict,data:=.seq its nl,slots:=oslots }:=Qd _ hol;have y8:=F.sub_list_set;have y9:=F.sub_list_frozenset;have y0:(Value.type "list" == Value.type "dict")=false:=by decide
   have hl1:(s.heap.push (bare led)).IsList l its:=⟨_,hol1,rfl,nl,rfl⟩;unfold Builtin.«set.__init__» noKeywords Builtin.Frozenset.updateFrom;generalize hPI:pyIter=PI
   wp_walk
   subst hPI;refine wpAny_pyIter_list hl1 ?_;refine Qb (wpAny_runValue ?_);have lS:l<s.heap.objs.size:=Qm hol
   have nI:l≠(s.heap.push (bare led)).objs.size:=by
    rw[Xe];exact Qz (Nat.lt_succ_of_lt lS)
   have nF:s.heap.objs.size∉[(s.heap.push (bare led)).objs.size,l]:=by
    rw[Xe];simp only[QP,Qu,List.not_mem_nil,or_false,not_or];exact{Qz (XW _),XG lS}
   refine vQ ((Walks.list (show A.in1.in1.in1.handled=none by simp[hh]) _ l nI its).toS) nF g hi hb (its.size-0) 0 _ ⋯ (QB _) { {_,Qr _ rfl,rfl,rfl},(hl1.push _)} ?_ λs3 mv q=>?_
   ·have e:((s.heap.push (bare led)).push { cls:=.type "list_iterator", data:=.fields #[.ref l,.int 0 0] }).get? s.heap.objs.size=-bare led:=Qd _ hS;exact cN.congr (cN.bare (by rw[e,hled])) (λ_=>by simp[met]) rfl
   obtain⟨h3,g3,d3,tk3,os3⟩:=s3;obtain rfl:g3=s.gens:=mv.gens;obtain rfl:d3=s.drawn:=mv.drawn;obtain rfl:os3=s.os:=mv.os;show wpAny _ _ _ _ _ _;refine Qf ?_;show wpAny _ _ (ret Value.none) _ _ _;refine Qf {rfl,h3,tk3,rfl,q,λb o e=>?_};have lb:=Qm e;have z1:b≠s.heap.objs.size:=Qz lb
   have z2:b≠(s.heap.push (bare led)).objs.size:=by
    rw[Xe];exact Qz (Nat.lt_succ_of_lt lb)
   exact mv.heap b o (by simp only[QP,Qu,List.not_mem_nil,or_false,not_or];exact⟨z1,z2⟩) (Qd _ (Qd _ e))
  cases r2 with
  | error e=>exact hr2
  | ok fl2 =>
  cases fl2 with
  | ret r =>
   obtain⟨rfl,h1,tk,rfl,q,k⟩:=hr2
   repeat (any_goals (first|assumption|wp_step))
   exact h _ _ q k
  | _=>exact hr2.elim
 | _=>exact hr.elim
end
end LS
namespace L2
open PySem PySem.Spec PyProof.Rows
def uniq (ts:List Str):Nat:=(LS.met (λi=>ts.getD i Str.empty) ts.length).length
section
variable {X:Cx} {a:Expr} {ta:TA} {p p1 pos pos1:Pos}
end
end L2
namespace LS
open PySem
end LS
namespace L2
open PySem
end L2
set_option maxHeartbeats 400000
namespace LS
open PySem PySem.Spec PyProof.Rows PySem.Calls
theorem vF {prog:Program} {w:World} {k:Str} {v:Value} (h:(PySem.strKind prog w).is k v=true):∃t,v=.str k t:=by
 cases v <;> simp[PySem.strKind,Value.isStrOf]at h;exact{_,by rw[h]}
section
variable {prog:Program} {w:World} {A:Around} {E:J0} {s:Shared} {a:Addr} {S:Str->Bool} {n:Nat}
structure Ord (S:Str->Bool) (n:Nat) (od:List (Int × Value)):Prop where
 len:od.length=n
 txt:∀e∈od,∃x t,e.2=.str x t
 mem:∀x,S x=true↔∃e∈od,∃t,e.2=.str x t
variable {Q:J0}
theorem vR (hh:A.handled=none) (q:cN prog w s.heap a S n)
  (h:∀h' d I od fp St,Ord S n od->(∀b o,s.heap.get? b=-o->h'.get? b=-o)->s.heap.objs.size<=I->(∀b∈fp,b=a\/s.heap.objs.size<=b)->Walks prog w A I fp [I] n (λi v=>∃e,od[i]?=-e/\v=e.2) St->St 0 h'->Q (.ref I) { s with heap:=h',drawn:=d }) :
  wpAny (model prog w) A (pyIter (.ref a)) Q E s:=by
 obtain⟨o,es,ep,t,ho,hex,hd,hel,hm,hb,hf,hn,hl⟩:=q;have hT:s.TypeIs (.ref a) "set" := ⟨o,ho,hex.1⟩
 have od:∀l:List (Int × Value),l.Perm es.toList->Ord S n l:=λl p=>{by rw[p.length_eq,Qs];exact hn,λe he=>by
   obtain⟨⟨k,hk,_⟩,_⟩:=hel e (p.mem_iff.mp he);obtain⟨t,ht⟩:=vF hk
   exact⟨k,t,ht⟩,λx=>(hm x).trans {λ⟨e,he,z⟩=>{e,p.mem_iff.mpr he,vF z},λ⟨e,he,t,z⟩=>{e,p.mem_iff.mp he,by rw[z];exact strKind_is _ _ _ _} } }
 have hlt:=Qm ho;subst hn;refine wpAny_pyIter_slot hT F.slot_set_iter (XH F.slot_set_iter hT kX ?_ (F.args_set_iter_1 _));unfold Builtin.«frozenset.__iter__» Builtin.Frozenset.slot0 slotArgs;simp only[List.isEmpty_nil,Bool.not_true,QW,↓reduceIte,bind_assoc,List.length_nil,bne_self_eq_false];unfold Builtin.Frozenset.addrOf Builtin.Frozenset.sizeOf;refine Qb (Qf ?_)
 try dsimp only
 refine Qb (Qf ?_);refine Qb (Qb (wpAny_setEntries_of ho hd hf (Qf ?_)));unfold setDrawn setsByText;refine Qb (Qb (wpAny_setState_of ho hd hf ?_));dsimp only;refine Qb (Qb (wpAny_askSetting (Qf ?_)));show wpAny _ _ (pure (!(w.params.followText "set-order")&&(!t.plain&&decide (es.size>1)))) _ _ _;refine Qf ?_;have hs0:e_ s.heap a es ep t:=⟨o,ho,hd,hex.1,hf⟩
 have plainway:∀(oI:Obj),oI={ cls:=.type "set_iterator", data:=.fields #[.int 0 0,.int 0 0,.ref a,.int es.size 0,.int ep 0] }->gk (s.heap.push oI) s.heap.objs.size a (.int ((0:Nat):Int) 0) 0 es.size ep/\e_ (s.heap.push oI) a es ep t:=λoI e=>by
  subst e;exact{ {_,Qr _ rfl,rfl,rfl},hs0.at λo e=>Qd _ e}
 refine wpAny_ite_split (λhab=>?_) λhab=>?_
 ·simp only[Xj,Bool.not_eq_true',decide_eq_true_eq]at hab;refine Qb (fM es.size (List.range es.size) s _ (by simp) λpl d pm=>?_);refine Qb (wpAny_newTuple ?_ (by rw[Qa,pm.length_eq,List.length_range];exact fits_of_scanBound hb));unfold setEpoch;have ho1:(s.heap.push { cls:=.type "tuple", data:=.seq (pl.map λ(i:Nat)=>rawInt i).toArray }).get? a=-o:=Qd _ ho;refine Qb (Qb (wpAny_setState_of (s:={ s with heap:=s.heap.push { cls:=.type "tuple", data:=.seq (pl.map λ(i:Nat)=>rawInt i).toArray },drawn:=d }) ho1 hd hf (Qf ?_)));unfold newFields;refine Qb (wpAny_newObj_type ?_ (by size_fits));refine Qf {_,rfl, "set_iterator", _,{_,Qr _ rfl,rfl},c_.lookup,?_};have ne:a≠(s.heap.push { cls:=.type "tuple", data:=.seq (pl.map λ(i:Nat)=>rawInt i).toArray }).objs.size:=by rw[Xe];exact Qz (Nat.lt_succ_of_lt hlt)
  have nt:s.heap.objs.size≠(s.heap.push { cls:=.type "tuple", data:=.seq (pl.map λ(i:Nat)=>rawInt i).toArray }).objs.size:=by rw[Xe];exact Qz (XW _)
  refine h _ _ _ (pl.filterMap λj=>es[j]?) _ _ (od _ ((pm.filterMap _).trans (by rw[filterMap_getElem?_range]))) (λb o e=>Qd _ (Qd _ e)) (by rw[Xe];exact Nat.le_succ _) (λb hb=>?_) (o_ (ep:=ep) (t:=t) hh _ _ pl pm ne nt) ?_
  ·simp only[QP,List.not_mem_nil,or_false]at hb;rcases hb with rfl|rfl|rfl
   ·exact .inr (by rw[Xe];exact Nat.le_succ _)
   ·exact .inl rfl
   exact .inr (Qh _)
  exact{ {_,Qr _ rfl,rfl,rfl},hs0.at λo e=>Qd _ (Qd _ e),Qd _ (Qr _ rfl)}
 refine Qb (Qf ?_);unfold setEpoch;refine Qb (Qb (wpAny_setState_of ho hd hf (Qf ?_)));unfold newFields;refine Qb (wpAny_newObj_type ?_ (by size_fits));refine Qf {_,rfl, "set_iterator", _,{_,Qr _ rfl,rfl},c_.lookup,?_};obtain⟨i0,s0⟩:=plainway _ rfl;have ne:a≠s.heap.objs.size:=Qz hlt
 have fpok:∀b∈[s.heap.objs.size,a],b=a\/s.heap.objs.size<=b:=λb hb=>by
  simp only[QP,List.not_mem_nil,or_false]at hb;rcases hb with rfl|rfl
  ·exact .inr (Qh _)
  exact .inl rfl
 cases ht:w.params.followText "set-order" with
 | true=>exact h _ s.drawn _ _ _ _ (od _ (iN (w.params.setOrder a ep) es)) (λb o e=>Qd _ e) (Qh _) fpok (qT (ep:=ep) (t:=t) hh ht _ ne) ⟨i0,s0⟩
 | false =>
 rcases hl with z|⟨z1,z2⟩
 ·rw[ht]at z;cases z
 have h1:es.size<=1:=by
  rw[ht]at hab;by_cases e0:es.size=0
  ·omega
  rw[z2 e0]at hab;simp at hab;omega
 exact h _ s.drawn _ _ _ _ (od _ (.refl _)) (λb o e=>Qd _ e) (Qh _) fpok (uc (ep:=ep) hh ht h1 z1 _ ne) { {0,i0,λ_=>rfl,λz=>by cases z},s0}
theorem w9 {r:Addr} {Q:Bool->Shared->Prop} (hT:s.TypeIs (.ref r) "set") (h:Q false s):wpAny (model prog w) A (Builtin.List.listLengthHint (.ref r)) Q E s:=by
 unfold Builtin.List.listLengthHint;refine Qb (wpAny_specialOf hT PySem.F.slot_set_len.lookup ?_);generalize hid:("set.__len__" : String)=id0
 wp_delta
 rw[show splitId id0=-("set", "__len__") from by subst hid;decide +kernel];subst hid;refine Qb (wpAny_isInstance (T := "set") (b:=true) hT (by rw[isSubtype_type];kernel_rfl) ?_);refine wpAny_ite_split (λhab=>absurd hab (by decide)) (λ_=>?_);refine wpAny_ite_split (λ_=>?_) (λhab=>absurd (by decide +kernel) hab);refine Qb (wpAny_typeOf hT ?_);exact Qf h
theorem qL {R:List Value->Shared->Prop} (hh:A.handled=none) (q:cN prog w s.heap a S n)
  (h:∀g tk d od,Ord S n od->(∀b o,s.heap.get? b=-o->g.get? b=-o)->s.heap.objs.size<=g.objs.size->R (od.map (·.2)) { s with heap:=g,toks:=tk,drawn:=d }):wpAny (model prog w) A (collect (.ref a)) R E s:=by
 obtain⟨o,es,ep,t,ho,hex,hd,hel,hm,hb,hf,hn,hl⟩:=id q;have hlt:=Qm ho;have nz:n<=sizeLine:=fits_of_scanBound (by rw[<-hn];exact hb);unfold collect;refine Qb (wpAny_runValue (Xu entry_proto_collect' ?_));rw[Xh PySem.F.plain_proto_collect _];refine Qb (wpAny_newObj_type (Qf {plainId_quiet PySem.F.plain_list_iadd _,Xu entry_list_iadd' ?_}));rw[Xh PySem.F.plain_list_iadd _];show wpAny _ _ (Builtin.List.listExtendWith (.ref s.heap.objs.size) (.ref a) (.ref s.heap.objs.size)) _ _ { s with heap:=s.heap.push { cls:=.type "list", data:=.seq ([]:List Value).toArray } };generalize hL:({ cls:=.type "list", data:=.seq ([]:List Value).toArray }:Obj)=L;have ho1:(s.heap.push L).get? a=-o:=Qd _ ho;have q1:cN prog w (s.heap.push L) a S n:=⟨o,es,ep,t,ho1,hex,hd,hel,hm,hb,hf,hn,hl⟩;have hS:(s.heap.push L).get? s.heap.objs.size=-L:=Qr _ (by rw[<-hL];rfl);have nS:s.heap.objs.size≠a:=XG hlt;unfold Builtin.List.listExtendWith;refine Qb (wpAny_typeOf (T := "set") (s:={ s with heap:=s.heap.push L }) ⟨o,ho1,hex.1⟩ ?_);have h1:Builtin.List.listSameRef (.ref s.heap.objs.size) (.ref a)=false:=by simp[Builtin.List.listSameRef,nS]
 have h2:(Value.type "set" == Value.type "list")=false:=by decide
 have h3:(Value.type "set" == Value.type "tuple")=false:=by decide
 simp only[h1,h2,h3,Bool.or_false,QW,if_false];refine Qb (vR (A:=A.in1) (s:={ s with heap:=s.heap.push L }) hh q1 λh' d I od fp St om k hI hfp W st=>?_);have k':∀b o,s.heap.get? b=-o->h'.get? b=-o:=λb o e=>k b o (Qd _ e);have szL:(s.heap.push L).objs.size=s.heap.objs.size+1:=Xe ..;have nI:s.heap.objs.size≠I:=by have:=hI;simp only[szL]at this;omega
 have hI':s.heap.objs.size<=I:=by simp only[szL]at hI;omega
 have nF:s.heap.objs.size∉fp:=λz=>by
  rcases hfp _ z with y|y
  ·exact nS y
  simp only[szL]at y;omega
 have hS1:h'.get? s.heap.objs.size=-L:=k _ _ hS;refine Qb (Q3 (w9 (s:={ s with heap:=h',drawn:=d }) {o,k' a o ho,hex.1} ?_))
 have key:∀(g:Heap) (c₁ tk:Nat),St 0 g->(∀b o,b≠s.heap.objs.size->h'.get? b=-o->g.get? b=-o)->g.get? s.heap.objs.size=some { cls:=.type "list", data:=.seq #[] c₁ } ->
   codeAny (model prog w) A (.builtin "list.extend.loop" {[.ref s.heap.objs.size,.ref I,.ref s.heap.objs.size],[]}) (λr s'=>∃(g:Heap) (tk:Nat) (acc:Array Value) (c:Nat),r=.ok (.ret (.ref s.heap.objs.size))/\s'={ s with heap:=g,toks:=tk,drawn:=d } /\
   (∀b o,s.heap.get? b=-o->g.get? b=-o)/\g.get? s.heap.objs.size=some { cls:=.type "list", dict:=none,data:=.seq acc c,slots:=#[] }/\PySem.ItemsOf (λi v=>∃e,od[i]?=-e/\v=e.2) acc n) { s with heap:=g,toks:=tk,drawn:=d }:=by
  intro g c₁ tk hst hk hS₁;refine codeAny_extend_loopS W.toS nz _ nF _ n 0 _ #[] c₁ rfl (QB _) hst hS₁ (ItemsOf.nil _) λs' acc' c' hm hS' hacc=>?_;rw[Moved.eq_with hm];refine{s'.heap,s'.toks,acc',c',rfl,rfl,λb o e=>hm.heap b o (λhmem=>?_) (hk b o (Qz (Qm e)) (k' b o e)),hS',hacc};rcases QP.mp hmem with e'|hmem
  ·exact absurd (Qm e) (by rw[e'];exact Nat.lt_irrefl _)
  exact absurd (Qm e) (by rw[Qu.mp hmem];exact Nat.not_lt.mpr hI')
 have all:∀(acc:Array Value),PySem.ItemsOf (λi v=>∃e,od[i]?=-e/\v=e.2) acc n->acc.toList=od.map (·.2):=λacc ⟨z1,z2⟩=>by
  refine List.ext_getElem? λi=>?_;rw[QA,Qi];by_cases hi:i<n
  ·obtain⟨e,e1,e2⟩:=z2 i acc[i] (Q7 ⋯);rw[Q7 ⋯,e1,e2];rfl
  rw[Array.getElem?_eq_none ⋯,Xd (by rw[om.len];omega)];rfl
 subst hL;refine wpAny_ite_split (λ_=>?_) (λ_=>Qf {plainId_quiet PySem.F.plain_extend_loop _,codeAny_mono (key h' 0 s.toks st (λb o _ e=>e) hS1) λr s' y=>?_})
 ·refine Qb (XU ?_);refine Qb ?_;show wpAny _ _ (updateSeq s.heap.objs.size (·.push .none) >>= λ_=>updateSeq s.heap.objs.size (·.pop)) _ _ _;refine Qb (wpAny_updateSeq hS1 rfl ?_);have hS2:=XO (Obj.mapSeq (·.push Value.none)) hS1 rfl;refine wpAny_updateSeq (hz:=by seq_fits) hS2 rfl ?_;have hS3:=XO (Obj.mapSeq (·.pop)) hS2 rfl;refine Qf {plainId_quiet PySem.F.plain_extend_loop _,codeAny_mono (key _ _ s.toks ?_ (λb o hb e=>?_) hS3) λr s' y=>?_}
  ·refine W.frame 0 _ _ st λb hb o e=>?_;have hbS:b≠s.heap.objs.size:=λh=>nF (h▸hb);exact(Q4 _ _ (XJ hbS)).trans ((Q4 _ _ (XJ hbS)).trans e)
  ·exact(Q4 _ _ (XJ hb)).trans ((Q4 _ _ (XJ hb)).trans e)
  obtain⟨g,tk,acc,c,rfl,rfl,kk,at',it⟩:=y;exact Qb (wpAny_load at' (Qf (by rw[all acc it];exact h g tk d od om kk (Xx (Qm at')))))
 obtain⟨g,tk,acc,c,rfl,rfl,kk,at',it⟩:=y;exact Qb (wpAny_load at' (Qf (by rw[all acc it];exact h g tk d od om kk (Xx (Qm at')))))
theorem i_:∀(as bs:List Str),as.Nodup->(∀x∈as,x∈bs)->bs.length<=as.length->as.Perm bs
 | [],bs,_,_,h=>by
  obtain rfl:bs=[]:=Xb.mp (~~~h);exact .nil
 | a::as,bs,nd,h,z=>by
  obtain⟨n1,n2⟩:=Q6.mp nd;have ha:=h a Xk;have p:=List.perm_cons_erase ha;have q:=i_ as (bs.erase a) n2 (λx hx=>(List.mem_erase_of_ne λ(e:x=a)=>n1 (e▸hx)).mpr (h x (Qx _ hx))) (by rw[List.length_erase_of_mem ha];simp at z;omega);exact(q.cons a).trans p.symm
theorem rc {ts:List Str} (hh:A.handled=none) (nd:ts.Nodup) (q:cN prog w s.heap a (λx=>decide (x∈ts)) ts.length)
  (h:∀D h' tk d (out:Array Value) m ss,(∀b o,s.heap.get? b=-o->h'.get? b=-o)->s.heap.objs.size<=D->h'.get? D=-seqObj "list" out m->StrsAre out.toList ss->ss.Perm ts->ss.Pairwise L2.leT->Q (.ref D) { s with heap:=h',toks:=tk,drawn:=d }) :
  wpAny (model prog w) A (call (.builtin "sorted") [.ref a]) Q E s:=by
 obtain⟨_,es,_,_,_,_,_,_,_,hb,_,hn,_⟩:=id q;refine Calls.call_function_entry kind_sorted plain_sorted entry_sorted (args_sorted1 _) ?_;unfold Builtin.«sorted»;refine Qb (m:=checkCount "sorted" 1 1 _) (Qf ?_);refine Qb (qL (A:=A.in1) hh q λh1 tk d od om k1 z1=>?_);have len:(od.map (·.2)).length=ts.length:=by rw[Qa,om.len]
 have len':(od.map (·.2)).length<=100000:=by unfold scanBound at hb;omega
 have alls:∀v∈od.map (·.2),∃x t,v=.str x t:=λv hv=>by
  obtain⟨e,he,rfl⟩:=Qj.mp hv;exact om.txt e he
 have sa:=strsAre_map _ alls
 have pm:((od.map (·.2)).map strOf).Perm ts:=(i_ ts _ nd (λx hx=>by
  obtain⟨e,he,t,z⟩:=(om.mem x).mp (~~~hx)
  exact Qj.mpr {e.2,Qj.mpr ⟨e,he,rfl⟩,by rw[z];rfl}) (by rw[Qa,len];exact Qh _)).symm
 generalize hv:od.map (·.2)=vs at len len' alls sa pm ⊢;refine Qb (wpAny_newList ?_ (by rw[XC];omega));have hoL:(h1.push (seqObj "list" vs.toArray 0)).get? h1.objs.size=-seqObj "list" vs.toArray 0:=Qr _ rfl;refine Qb (Q3 (XH (s:={ s with heap:=h1.push (seqObj "list" vs.toArray 0),toks:=tk,drawn:=d }) slot_list_sort ⟨_,hoL,rfl⟩ entry_list_sort (Tm.kN hoL (Tm.lm sa) len' λout p1 p2=>{_,rfl,?_}) (args_list_sort _)));obtain⟨m,at'⟩:=Tm.gE (vs:=vs) (out:=out) hoL;obtain⟨ss,so,pm2,st⟩:=L2.jV sa p1 p2;exact Qf {_,rfl,h _ _ _ _ out m ss (λb o e=>Tm.fV (Qz (QG (Qm e) z1)) (Qd _ (k1 b o e))) z1 at' so (pm2.trans pm) st}
end
theorem iP (g:Nat->Str):∀i,(met g i).Nodup
 | 0=>List.nodup_nil
 | i+1=>by
  have q:=iP g i;show (if g i∈met g i then met g i else met g i++[g i]).Nodup
  split
  ·exact q
  rename_i h
  exact Xw.mpr {q,by simp,λx hx y hy e=>h (by simp at hy;rw[<-hy,<-e];exact hx)}
end LS
namespace L2
open PySem PySem.Spec PyProof.Rows
theorem Inv.drawn {X:Cx} {pins:J5} {U:List (Option V)} {H:Hp} {s:Shared} (I:Inv X pins U H s) (d:Drawn):Inv X pins U H { s with drawn:=d }:=⟨I.ok,I.os,I.bare,I.base,I.loc,I.cell,I.free,I.freeC,I.pin,I.hok,I.len⟩
section
variable {X:Cx} {a:Expr} {ta:TA} {p p1 pos pos1:Pos}
def yV (ts ss:List Str):Prop:=ss.Nodup/\(∀x,x∈ss↔x∈ts)/\ss.Pairwise leT
def ug (K:PySem.W.Frag) (ta:TA):TE:=λU H Q=>ta U H λvs H1=>∃l ts,vs=[.ref l]/\SqL K H1 l (ts.map V.str)/\ts.length<=100000/\(∀us:List Str,us.Nodup->(∀x∈us,x∈ts)->us.length<4000)/\∀(p:Addr) (ss:List Str),H1 p=none->yV ts ss->Q (.ref p) (upd H1 p (.lst (ss.map V.str)))
def pk (K:PySem.W.Frag) (ta:TA):TE:=λU H Q=>ta U H λvs H1=>∃l ts,vs=[.ref l]/\SqL K H1 l (ts.map V.str)/\ts.length<4000/\∀(p:Addr) (ss:List Str),H1 p=none->yV ts ss->Q (.ref p) (upd H1 p (.lst (ss.map V.str)))
theorem Ap:∀(us ts:List Str),us.Nodup->(∀x∈us,x∈ts)->us.length<=ts.length
 | [],_,_,_=>QB _
 | x::us,ts,nd,h=>by
  have hx:=h x (by simp);have:=Ap us (ts.erase x) (Q6.mp nd).2 λy hy=>(List.mem_erase_of_ne λe:y=x=>(Q6.mp nd).1 (by rw[<-e];exact hy)).mpr (h y (Qx _ hy));rw[List.length_erase_of_mem hx]at this;have:=List.length_pos_of_mem hx;simp only[QT];omega
theorem qc (hc:X.calm=true) (hg:Gl X "sorted") (hm:X.mg "sorted" = none) (hg1:Gl X "set") (hm1:X.mg "set" = none) (ha:PA X [a] ta) (hs:starEach [a] X.env=[(false,eval a X.env)]:=by rfl)
  (he:starEach [.Call (.Name "set" p1) [a] [] pos1] X.env=[(false,eval (.Call (.Name "set" p1) [a] [] pos1) X.env)]:=by rfl) :
  PE X (.Call (.Name "sorted" p) [.Call (.Name "set" p1) [a] [] pos1] [] pos) (ug X.K ta):=by
 intro pins s U H Q I h;refine wpAny_Call_Name_kw (d7 I hg hm Xi ?_);refine PyProof.Rows.callWith_builtin1 ?_ he rfl;rw[he];show wpAny _ _ (spliced ((false,eval (.Call (.Name "set" p1) [a] [] pos1) X.env)::backTo pos [])) _ _ s;refine Calls.spliced_cons ?_;refine Call_ (d7 I hg1 hm1 PyProof.Rows.boot_set (Xf (thn (ha pos1 pins s U H _ I h) λus s1 z=>?_) hs rfl));obtain⟨vs,H1,I1,r1,l,ts,e,hl,hsm,hfw,q⟩:=z;subst e;obtain⟨u1,e,ru1⟩:=d8 r1;subst e;cases ru1;obtain⟨its,rv,pl,_⟩:=I1.list hl;have hlen:its.length=ts.length:=by rw[<-rv.length,Qa]
 refine LS.oF (its:=its.toArray) (g:=λi=>ts.getD i Str.empty) (I1.ok.hd hc) pl.isList (λi v hv=>?_) (λi hi=>?_) λh3 tk q3 kept=>?_
 ·have hv':its[i]?=-v:=by simpa using hv
  have hi:i<ts.length:=by
   have:=(Qe.mp hv').1;omega
  have e1:(ts.map V.str)[i]?=-.str (ts.getD i Str.empty):=by
   rw[Qi,Qc hi,QU,Qc hi];rfl
  obtain⟨u,hu,ru⟩:=rv.get e1;rw[hv']at hu;cases hu;obtain⟨t,e2⟩:=ru;exact⟨t,e2⟩
 ·rw[Ql,hlen]at hi
  have:=hfw _ (LS.iP (λi=>ts.getD i Str.empty) i) λx hx=>by
   obtain⟨j,hj,e⟩:=(LS.oq _ x i).mp hx;rw[<-e,QU,Qc (show j<ts.length by omega)];exact Xo _
  unfold scanBound;omega
 refine Calls.spliced_nil ?_;have hz:its.toArray.size=ts.length:=by rw[Ql];exact hlen
 rw[hz]at q3
 have mm:∀x,x∈LS.met (λi=>ts.getD i Str.empty) ts.length↔x∈ts:=λx=>by
  rw[LS.oq]
  constructor
  ·rintro⟨j,hj,rfl⟩;rw[QU,Qc hj];exact Xo hj
  intro hx;obtain⟨j,hj,e⟩:=List.getElem_of_mem hx;exact{j,hj,by rw[QU,Qc hj];exact e}
 have nd:=LS.iP (λi=>ts.getD i Str.empty) ts.length;have ml:=LS.wP (λi=>ts.getD i Str.empty) ts.length;have q3:LS.cN X.prog X.w h3 s1.heap.objs.size (λx=>decide (x∈LS.met (λi=>ts.getD i Str.empty) ts.length)) (LS.met (λi=>ts.getD i Str.empty) ts.length).length:=q3;generalize LS.met (λi=>ts.getD i Str.empty) ts.length=us at q3 mm nd ml;have I2:=I1.kept (t':=tk) kept;refine LS.rc (s:={ s1 with heap:=h3,toks:=tk }) (I1.ok.hd hc) nd q3 λD h' tk2 d out m ss k2 hD at' so pm st=>?_;have lo:ss.length<=ts.length:=by rw[pm.length_eq];exact ml
 exact{.ref D,_,(I2.drawn d).laid (o:=.lst (ss.map V.str)) (t':=tk2) k2 hD {by rw[Qa,XC];omega,out.toList,m,gQ so,at'},rfl,q _ ss (I2.hok.fresh hD) {pm.nodup_iff.mpr nd,λx=>(pm.mem_iff).trans (mm x),st} }
theorem rm (hc:X.calm=true) (hg:Gl X "sorted") (hm:X.mg "sorted" = none) (hg1:Gl X "set") (hm1:X.mg "set" = none) (ha:PA X [a] ta) (hs:starEach [a] X.env=[(false,eval a X.env)]:=by rfl)
  (he:starEach [.Call (.Name "set" p1) [a] [] pos1] X.env=[(false,eval (.Call (.Name "set" p1) [a] [] pos1) X.env)]:=by rfl) :
  PE X (.Call (.Name "sorted" p) [.Call (.Name "set" p1) [a] [] pos1] [] pos) (pk X.K ta):=by
 have ha2:PA X [a] (λU H R=>∃A:List V->Hp->Prop,ta U H A/\∀vs H1,A vs H1->R vs H1):=λpos pins s U H R I ⟨A,h,k⟩=>Xr (ha pos pins s U H A I h) (λus s1 ⟨vs,H1,I1,r,q⟩=>{vs,H1,I1,r,k _ _ q}) λ_ _ z=>z;intro pins s U H Q I h;exact qc hc hg hm hg1 hm1 ha2 hs he pins s U H Q I {_,h,λvs H1 ⟨l,ts,e,hl,z,q⟩=>{l,ts,e,hl,⋯,λus nd su=>Xy (Ap us ts nd su) z,q} }
end
end L2
set_option maxHeartbeats 4000000
namespace L2
open PySem PySem.Spec PyProof.Rows
theorem iW {H1:Hp} {D:Addr} {σ0:St} {g:TG} {te:TE} {QD:Hp->Prop} {a:Addr} {o:Obj} {kvs:List (Key × V)} (Pv:Nat->Hp->List V->Prop) (h0:Pv 0 (upd H1 D (.lst [])) []) (hD:∀i H ys,Pv i H ys->H D=-.lst ys/\H a=-.frz o (.dK kvs))
  (hs:∀i k v H ys,kvs[i]?=-(k,v)->Pv i H ys->g (kV k) σ0 H λσ2 H2=>wk σ0 σ2/\gP σ2 H2 λb H3=>if b=true then te σ2 H3 (b9 Pv kvs.length D i ys) else ∃m',m'<kvs.length-i/\(m'=kvs.length-(i+1)/\i+1<=kvs.length/\Pv (i+1) H3 ys)) (hd:∀H ys,Pv kvs.length H ys->QD H) :
  ∃W:Nat->Nat->Hp->List V->Prop,(∃m,W 0 m (upd H1 D (.lst [])) [])/\∀i m H ys,W i m H ys->H D=-.lst ys/\(((Itd a o kvs).stop i H/\QD H)\/((Itd a o kvs).go i H/\∀x H',(Itd a o kvs).yld i H x H'->g x σ0 H' λσ2 H2=>wk σ0 σ2/\gP σ2 H2 λb H3 =>
   if b=true then te σ2 H3 λv H4=>H4 D=-.lst ys/\ys.length<sizeLine/\∃m',m'<m/\W (i+1) m' (upd H4 D (.lst (ys++[v]))) (ys++[v]) else ∃m',m'<m/\W (i+1) m' H3 ys)):=by
 refine{λi m H ys=>m=kvs.length-i/\i<=kvs.length/\Pv i H ys,{kvs.length,by simp,QB _,h0},?_};rintro i m H ys ⟨rfl,hi,p⟩;obtain⟨d1,d2⟩:=hD i H ys p;refine{d1,?_};by_cases hlt:i<kvs.length
 ·refine .inr {⟨d2,hlt⟩,λx H' y=>?_};obtain⟨e,k,v,hk,ex⟩:=y;subst e ex;exact hs i k v _ ys hk p
 have e:i=kvs.length:=by exact om0 hi hlt
 subst e;exact .inl { {d2,Qh _},hd H ys p}
end L2
namespace Tm
open PySem PyProof.Rows
@[reducible] def intK:PyProof.Rows.KeyKind where
 α:=Int
 blt a b:=decide (a<b)
 irrefl a:=by simp
 trans a b c h1 h2:=by simp only[decide_eq_true_eq] at *;exact Int.lt_trans h1 h2
 negTrans a b c h:=by
  simp only[decide_eq_true_eq] at *;by_cases hab:a<b
  ·exact .inl hab
  exact .inr (Int.lt_of_le_of_lt (Int.not_lt.mp hab) h)
 total a b h1 h2:=by simp only[decide_eq_false_iff_not] at *;exact Int.le_antisymm (Int.not_lt.mp h2) (Int.not_lt.mp h1)
 keyOf v:=match v with|.int x _=>some x|_=>none
 dflt:=0
section
variable {prog:Program} {w:World}
end
end Tm
namespace L2
open PySem PySem.Spec PyProof.Rows
section
variable {X:Cx}
end
end L2
namespace Tm
open PySem PyProof.Rows PySem.W
def lZ (a b:List Nat × Int):Bool:=decide (a.1<b.1) || (decide (a.1=b.1)&&decide (a.2<b.2))
variable {a b:List Nat × Int}
theorem fo:lZ a b=true↔a.1<b.1\/(a.1=b.1/\a.2<b.2):=by simp[lZ]
theorem jC:lZ a b=false↔¬(a.1<b.1\/(a.1=b.1/\a.2<b.2)):=by rw[<-fo];simp
theorem tH (a:List Nat × Int):lZ a a=false:=by
 rw[jC];rintro(h|⟨_,h⟩)
 ·exact List.lt_irrefl _ h
 exact Int.lt_irrefl _ h
def wW:List Value->Option (List Nat × Int)
 | [.str z _,.int i _]=>-(z.cps.toList,i)
 | _=>none
def mU:Data->Option (List Nat × Int)
 | .seq its _=>wW its.toList
 | _=>none
def ku (h:Heap):Value->Option (List Nat × Int)
 | .ref a=>(h.get? a).bind λo=>mU o.data
 | _=>none
theorem zw {h:Heap} {a:Addr} {o:Obj} {its:Array Value} {n:Nat} {z:Str} {t:Tok} {i:Int} {u:Tok} (g:h.get? a=-o) (d:o.data=.seq its n) (e:its.toList=[.str z t,.int i u]):ku h (.ref a)=-(z.cps.toList,i):=by
 show (h.get? a).bind (λo=>mU o.data)=_;rw[g];show mU o.data=_;rw[d];show wW its.toList=_;rw[e];rfl
theorem yH {l:List Value} {k:List Nat × Int} (e:wW l=-k):∃z t i u,l=[.str z t,.int i u]/\k=(z.cps.toList,i):=by
 unfold wW at e
 split at e
 ·exact{_,_,_,_,rfl,(Q2 e).symm}
 cases e
theorem xq {d:Data} {k:List Nat × Int} (e:mU d=-k):∃its n,d=.seq its n/\wW its.toList=-k:=by
 unfold mU at e
 split at e
 ·exact⟨_,_,rfl,e⟩
 cases e
noncomputable def qg (h:Heap):PyProof.Rows.KeyKind where
 α:=List Nat × Int
 blt:=lZ
 irrefl a:=tH a
 trans a b c h1 h2:=by
  rw[fo] at *;rcases h1 with h1|⟨e1,h1⟩ <;> rcases h2 with h2|⟨e2,h2⟩
  ·exact .inl (List.lt_trans h1 h2)
  ·exact .inl (e2▸h1)
  ·exact .inl (e1▸h2)
  exact .inr {e1.trans e2,Int.lt_trans h1 h2}
 negTrans a b c h:=by
  rw[fo] at *;rw[fo];by_cases h1:a.1<b.1
  ·exact .inl (.inl h1)
  by_cases h2:b.1<c.1
  ·exact .inr (.inl h2)
  have l1:=List.not_lt.mp h1;have l2:=List.not_lt.mp h2;rcases h with h|⟨e,h⟩
  ·exact absurd (List.lt_of_le_of_lt (List.le_trans l2 l1) h) (List.lt_irrefl _)
  have e1:a.1=b.1:=List.le_antisymm (e▸l2) l1;by_cases h3:a.2<b.2
  ·exact .inl (.inr ⟨e1,h3⟩)
  exact .inr (.inr {e1▸e,⋯})
 total a b h1 h2:=by
  rw[jC] at *;have e:a.1=b.1:=List.le_antisymm (List.not_lt.mp λz=>h2 (.inl z)) (List.not_lt.mp λz=>h1 (.inl z))
  have:a.2=b.2:=by
   have x1:¬a.2<b.2:=λz=>h1 (.inr ⟨e,z⟩);have x2:¬b.2<a.2:=λz=>h2 (.inr ⟨e.symm,z⟩);omega
  exact Prod.ext e this
 keyOf:=ku h
 dflt:=([],0)
theorem n9 {h:Heap} {v:Value} {k:List Nat × Int} (e:ku h v=-k):∃(a:Addr) (o:Obj) (its:Array Value) (n:Nat) (z:Str) (t:Tok) (i:Int) (u:Tok),v=.ref a/\h.get? a=-o/\o.data=.seq its n/\its.toList=[.str z t,.int i u]/\k=(z.cps.toList,i):=by
 unfold ku at e
 split at e
 ·rename_i a
  cases g:h.get? a with
  | none=>rw[g]at e;cases e
  | some o =>
  rw[g]at e;have e:mU o.data=-k:=e;obtain⟨its,n,d,e⟩:=xq e;obtain⟨z,t,i,u,e1,e2⟩:=yH e;exact⟨a,o,its,n,z,t,i,u,rfl,g,d,e1,e2⟩
 cases e
section
variable {prog:Program} {w:World}
theorem yd {h:Heap} {A:Around} {s:Shared} (keep:∀v k,ku h v=-k->ku s.heap v=-k):iZ (qg h) (tuples' true) prog w A s:=by
 intro E x y a b Q ha hb hq;obtain⟨ax,o1,is1,n1,z1,t1,i1,u1,rfl,g1,d1,l1,rfl⟩:=n9 (keep _ _ ha);obtain⟨ay,o2,is2,n2,z2,t2,i2,u2,rfl,g2,d2,l2,rfl⟩:=n9 (keep _ _ hb);have hq:Q (lZ (z1.cps.toList,i1) (z2.cps.toList,i2)) s:=hq;refine kat_lt g1 d1 g2 d2 ?_
 have ez:decide (is1.size<is2.size)=false:=by
  have x1:=congrArg List.length l1;have x2:=congrArg List.length l2;rw[Qs]at x1 x2;rw[x1,x2];rfl
 rw[ez,l1,l2];refine kat_cons (eqBool_str (kat_go (λe=>kat_yes ?_) (λe=>kat_no ?_)))
 ·have e:z1=z2:=by simpa using e
  subst e;refine kat_cons (wpAny_eqBool_int (kat_go (λe=>kat_yes (kat_nil ?_)) (λe=>kat_no ?_)))
  ·have e:i1=i2:=by simpa using e
   subst e;rw[tH]at hq;exact hq
  refine kat_one _ _ (lt_int ?_)
  have:lZ (z1.cps.toList,i1) (z1.cps.toList,i2)=decide (i1<i2):=by
   rw[Bool.eq_iff_iff,fo,XA];exact{λh=>h.elim (λh=>absurd h (List.lt_irrefl _)) (·.2),λh=>.inr ⟨rfl,h⟩}
  rw[this]at hq;exact hq
 have e:¬z1=z2:=by simpa using e
 have ne:¬z1.cps.toList=z2.cps.toList:=λz=>e (by cases z1;cases z2;exact congrArg Str.mk (Array.toList_inj.mp z));refine oneLt_str ?_
 have:lZ (z1.cps.toList,i1) (z2.cps.toList,i2)=decide (z1.cps.toList<z2.cps.toList):=by
  rw[Bool.eq_iff_iff,fo,XA];exact{λh=>h.elim id (λh=>absurd h.1 ne),λh=>.inl h}
 rw[this]at hq;exact hq
def lJ (h:Heap) (bs:J7) (kf:Addr->Str × Int):Prop:=∀b∈bs,∃(o:Obj) (its:Array Value) (n:Nat) (t u:Tok),h.get? b=-o/\o.cls=.type "tuple" /\ o.data=.seq its n/\its.toList=[.str (kf b).1 t,.int (kf b).2 u]
variable {kf:Addr->Str × Int}
theorem pY {h:Heap} {bs:J7} (p:lJ h bs kf) {b:Addr} (hb:b∈bs):ku h (.ref b)=-((kf b).1.cps.toList,(kf b).2):=by
 obtain⟨o,its,n,t,u,g,_,d,l⟩:=p b hb;exact zw g d l
theorem sG {h:Heap} {kf:Addr->Str × Int}:∀{bs:J7},lJ h bs kf->∃fs:List Value,fs.length=bs.length/\KatTups h (bs.map Value.ref) fs/\∀f∈fs,∃z t,f=.str z t
 | [],_=>{[],rfl,.nil,λf hf=>nomatch hf}
 | b::bs,p=>by
  obtain⟨fs,l,k,hf⟩:=sG (bs:=bs) λc hc=>p c (Qx _ hc);obtain⟨o,its,n,t,u,g,hc,d,li⟩:=p b (by simp);refine{.str (kf b).1 t::fs,by rw[QT,l,QT],.cons g hc d (by rw[<-QA,li];rfl) k,λf h=>?_};rcases QP.mp h with rfl|h
  ·exact⟨_,_,rfl⟩
  exact hf f h
theorem m4 {h0 h:Heap} {a:Addr} {bs:J7} (k0:∀b o,h0.get? b=-o->h.get? b=-o) (p:lJ h0 bs kf) (na:∀b o,h0.get? b=-o->b≠a):Can prog w (qg h0) (tuples' true) h a (bs.map Value.ref) where
 key v hv:=by
  obtain⟨b,hb,rfl⟩:=Qj.mp hv;exact{((kf b).1.cps.toList,(kf b).2),pY p hb}
 lt A s ks:=yd λv k e=>by
  obtain⟨b,o,its,n,z,t,i,u,rfl,g,d,l,rfl⟩:=n9 e;exact zw (ks _ _ (na _ _ g) (k0 _ _ g)) d l
 kind h2 A E s Q ks hq:=by
  have p':lJ s.heap bs kf:=λb hb=>by
   obtain⟨o,its,n,t,u,g,hc,d,l⟩:=p b hb;exact{o,its,n,t,u,ks _ _ (na _ _ g) (k0 _ _ g),hc,d,l}
  obtain⟨fs,l,kt,hf⟩:=sG p';rw[Qa]at h2;refine kat_kind (T:=.type "str") kt ⋯ (λf hf'=>?_) (by decide) hq;obtain⟨z,t,rfl⟩:=hf f hf';exact Looks.of_pure rfl
end
end Tm
namespace L2
open PySem PySem.Spec PyProof.Rows
section
variable {X:Cx}
def vT (K:PySem.W.Frag):List V->Hp->VK->Prop:=λxs H Q=>∃(l:Addr) (bs:J7) (kf:Addr->Str × Int),xs=[.ref l]/\SqL K H l (bs.map V.ref)/\(∀b∈bs,H b=-.tup [.str (kf b).1,.int (kf b).2])/\bs.length<=100000 /\
 ∀(p:Addr) (bs':J7),H p=none->bs'.Perm bs->bs'.Pairwise (λa b=>leT (kf a).1 (kf b).1)->Q (.ref p) (upd H p (.lst (bs'.map V.ref)))
theorem jL:∀{cs:J7} {us:List Value},ba (cs.map V.ref) us->us=cs.map Value.ref
 | [],_,r=>by
  rw[List.map_nil]at r;cases r;rfl
 | c::cs,_,r=>by
  rw[QN]at r
  cases r with
  | cons r1 r2=>rw[jL r2,QN];cases (show _=Value.ref c from r1);rfl
theorem iK:∀(cs:J7),ba (cs.map V.ref) (cs.map Value.ref)
 | []=>.nil
 | _::cs=>.cons rfl (iK cs)
theorem mF:∀{ys zs:List Value},ys.Perm zs->∀l:J7,zs=l.map Value.ref->∃l':J7,l'.Perm l/\ys=l'.map Value.ref:=by
 intro ys zs h
 induction h with
 | nil=>intro l e;cases l with
  | nil=>exact{[],.refl _,rfl}
  | cons a l=>cases e
 | cons x _ ih=>intro l e;cases l with
  | nil=>cases e
  | cons a l =>
   rw[QN]at e;cases e;obtain⟨l',h1,h2⟩:=ih l rfl;exact{a::l',h1.cons a,by rw[h2];rfl}
 | swap x y zs=>intro l e;match l,e with
  | a::b::l,e =>
   cases e;exact{b::a::l,.swap _ _ _,rfl}
 | trans _ _ ih1 ih2 =>
 intro l e;obtain⟨l2,h1,h2⟩:=ih2 l e;obtain⟨l3,h3,h4⟩:=ih1 l2 h2;exact{l3,h3.trans h1,h4}
theorem hX (hc:X.calm=true):d6 X (.builtin "sorted") (vT X.K):=by
 intro pins s U H xs us Q I r h;obtain⟨l,bs,kf,rfl,hl,prs,hz,q⟩:=h;obtain⟨u,rfl,ru⟩:=d8 r;cases ru;obtain⟨its,rv,pl,_⟩:=I.list hl;have ei:=jL rv;subst ei
 have pa:Tm.lJ s.heap bs kf:=λb hb=>by
  obtain⟨its,r2,⟨o,g,hc',n,hd⟩,_⟩:=I.tuple (SqT.of (prs b hb))
  cases r2 with
  | cons r3 r4 =>
  cases r4 with
  | cons r5 r6 =>
  cases r6;obtain⟨t,rfl⟩:=r3;obtain⟨u,rfl⟩:=r5;exact⟨o,_,n,t,u,g,hc',hd,rfl⟩
 have lb:(bs.map Value.ref).length=bs.length:=Qa ..
 refine Tm.gu (s:=s) (κ:=λ_=>Tm.qg s.heap) (kd:=tuples' true) (G:=λh' vs=>vs=bs.map Value.ref/\∀b o,s.heap.get? b=-o->h'.get? b=-o) (λA E R _ hR=>collect_list pl.isList (hR _ _ (bs.map Value.ref) (λb o e=>?_) (by rw[Heap.size_update,size_push'];exact Nat.le_succ _) {rfl,λb o e=>?_}) (by rw[XC];exact wo hz lb)) (I.ok.hd hc)
  (λh' vs D k g eD=>?_) λD h' tk vs h1 out m k1 g1 k2 hle hD at' p1 p2=>?_
 ·exact(Q4 _ _ (XG (Qm e))).trans (Qd _ e)
 ·exact(Q4 _ _ (XG (Qm e))).trans (Qd _ e)
 ·obtain⟨rfl,k0⟩:=g;refine{by rw[lb];exact hz,Tm.m4 (λb o e=>Qd _ (k0 b o e)) pa λb o e=>by rw[eD];exact Qz (Qm (k0 b o e))}
 obtain⟨rfl,_⟩:=g1;obtain⟨bs',pm,eo⟩:=mF p1 bs rfl;have lo:bs'.length=bs.length:=pm.length_eq;refine{.ref D,_,I.laid (o:=.lst (bs'.map V.ref)) (t':=tk) (λb o g=>k2 b o (k1 b o g)) hle {by rw[Qa,XC];exact wo hz lo,out.toList,m,by rw[eo];exact iK bs',at'},rfl,q _ bs' (I.hok.fresh hle) pm ?_};rw[eo,XN]at p2;refine p2.imp_of_mem λ{a b} ha hb h=>?_;have h:Tm.lZ ((Tm.ku s.heap (.ref b)).getD ([],0)) ((Tm.ku s.heap (.ref a)).getD ([],0))=false:=h;rw[Tm.pY pa (pm.mem_iff.mp ha),Tm.pY pa (pm.mem_iff.mp hb)]at h;exact λz=>(Tm.jC.mp h) (.inl z)
end
end L2
namespace Tm
open PySem PyProof.Rows PySem.W
theorem sq {prog:Program} {w:World} {h:Heap} {a:Addr} {bs:J7} {kf:Addr->Str × Int} (p:lJ h bs kf) (na:a=h.objs.size) (l:Obj):Can prog w (qg h) (tuples' true) (h.push l) a (bs.map Value.ref) :=
 m4 (λb o e=>Qd _ e) p λb o e=>by rw[na];exact Qz (Qm e)
end Tm
namespace L2
open PySem PySem.Spec PyProof.Rows
section
variable {X:Cx}
def pb (a:Addr):Obj:={ cls:=.type "dict_items", data:=.fields #[.ref a] }
def vB (tl:TE):TE:=λU H Q=>tl U H λx H1=>∃a kvs,x=.ref a/\H1 a=-.dK kvs/\∀r,H1 r=none->Q (.ref r) (upd H1 r (cT (pb a)))
theorem v6 {l:Expr} {tl:TE} {apos pos:Pos} (hl:PE X l tl) (hbase:attributeBase l "items" X.env (eval l X.env)=eval l X.env:=by rfl) (hline:(apos.endLine==pos.line)=true:=by rfl):PE X (.Call (.Attribute l "items" apos) [] [] pos) (vB tl):=by
 intro pins s U H Q I h;refine wpAny_Call_method (T := "dict") (id := "dict.items") hbase rfl hline F.plainAttrs_dict F.slot_dict_items F.type_dict_items (thn (hl pins s U H _ I h) λv s1 ⟨x,H1,I1,r1,q1⟩=>?_);obtain⟨a,kvs,e,hz,q⟩:=q1;subst e;cases r1;obtain⟨z,hm,vs,rel,dd⟩:=mT I1.hok hz;refine{dd.typeIs,dd.mapOf.noDict,?_};show wpAny _ _ (callWith pos (.builtin "dict.items") [.ref a] [] []) _ _ s1;refine method_meetsIn F.slot_dict_items F.entry_dict_items rfl (PySem.evalArgs_none {rfl,dd.typeIs,F.args_dict_items_1 _,_,meets_dict_items (bq X.prog X.w) a hm,⟨vs,dd⟩,?_});exact{.ref s1.heap.objs.size,_,I1.laid (t':=s1.toks) (o:=cT (pb a)) (λb o e=>Qd _ e) (Qh _) (oQ (Qr _ rfl)),rfl,q _ (I1.hok.fresh (Qh _))}
abbrev J9:=List (Str × Int)
def aX (ps:J9):List (Key × V):=ps.map λp=>((Sum.inr p.1:Key),V.int p.2)
def AJ (K:PySem.W.Frag):List V->Hp->VK->Prop:=λxs H Q=>∃(r a:Addr) (ps:J9),xs=[.ref r]/\H r=-cT (pb a)/\H a=-.dK (aX ps)/\ps.length<=100000/\ps≠[] /\
 ∀(p:Addr) (bs:J7) (kf:Addr->Str × Int) (H2:Hp),ao H H2->H p=none->(bs.map kf).Perm ps->bs.Pairwise (λx y=>leT (kf x).1 (kf y).1)->(∀b∈bs,H2 b=-.tup [.str (kf b).1,.int (kf b).2])->H2 p=-.lst (bs.map V.ref)->Q (.ref p) H2
theorem Inv.laidAll {pins:J5} {U:St} {H H':Hp} {s:Shared} {h':Heap} {t':Nat} (I:Inv X pins U H s) (k:∀b u,s.heap.get? b=-u->h'.get? b=-u) (old:∀b,b<s.heap.objs.size->H' b=H b) (new:∀b u,s.heap.objs.size<=b->H' b=-u->bG X.prog X.w H' h' b u) :
  Inv X pins U H' { s with heap:=h',toks:=t' }:=by
 have sm:∀b u,H b=-u->H' b=-u:=λb u e=>by rw[old b (I.hok.lt e)];exact e
 refine I.un {λb u q _ _ _=>k b u q,λb u q _ _ _=>{u.slots,k b u q},λb u q n _=>by rw[old b (Qm q)];exact n,λb u q _=>{u,k b u q},λb xs q=>sm _ _ q,λb u xs q=>sm _ _ q,λb ps q=>{#[],by rw[sm _ _ q];simp} } λb u e=>?_;by_cases c:b<s.heap.objs.size
 ·exact(I.hok b u (by rw[<-old b c];exact e)).stay (λc v _ q=>k c v q) (λ_ q=>sm _ _ q) λ_ _ q=>sm _ _ q
 exact new b u (Nat.le_of_not_lt c) e
theorem sv (hc:X.calm=true):d6 X (.builtin "sorted") (AJ X.K):=by
 intro pins s U H xs us Q I r h;obtain⟨rv,a,ps,rfl,hr,ha,hz,ne,q⟩:=h;obtain⟨u,rfl,ru⟩:=d8 r;cases ru;obtain⟨er,_⟩:=(show bG X.prog X.w H s.heap rv (cT (pb a)) from I.hok rv _ hr);obtain⟨z,hm,vs,rel,dd⟩:=mT I.hok ha;obtain⟨ep,da⟩:=dd.dictAt;have lv:vs.length=ps.length:=by rw[<-KV.len rel];unfold aX;rw[Qa]
 refine Tm.gu (s:=s) (κ:=Tm.qg) (kd:=tuples' true) (G:=λh' us=>∃(as:J7) (kf:Addr->Str × Int),us=as.map Value.ref/\as.map kf=ps/\Tm.lJ h' as kf/\∀b∈as,s.heap.objs.size<=b)
  (λA E R hA hR=>PySem.W.kdx_collect (knd:=bq X.prog X.w) (kvs:=vs) (ep:=ep) hA ⟨_,er,rfl,rfl⟩ da (by rw[lv,XC];exact QY hz (by decide)) λh' tk as k la g=>?_) (I.ok.hd hc) (λh' us D k g eD=>?_) λD h' tk us h1 out m k1 g1 k2 hle hD at' p1 p2=>?_
 ·have nd:as.Nodup:=g.rise.imp λh=>Qz h;refine hR h' tk _ k ?_ {as,λb=>ps.getD (as.idxOf b) ("", 0),rfl,?_,?_,λb hb=>Xx (g.above b hb)}
  ·obtain⟨b,hb⟩:∃b,b∈as:=List.exists_mem_of_length_pos (by rw[la,lv];exact List.length_pos_iff.mpr ne);exact Xx (Nat.lt_trans (g.above b hb) (g.there hb))
  ·refine List.ext_getElem? λi=>?_;rw[Qi];by_cases c:i<as.length
   ·rw[Qc c];show -ps.getD (as.idxOf as[i]) ("", 0)=_;rw[nd.idxOf_getElem,QU,Qc ⋯];rfl
   rw[Xd ⋯,Xd ⋯];rfl
  intro b hb;obtain⟨j,hj,rfl⟩:=Qo.mp hb;obtain⟨key,kk,x,e1,e2,e3⟩:=g.pairs j _ (Qc hj);have hp:j<ps.length:=by omega
  obtain⟨u,e4,e5⟩:=KV.get (i:=j) (k:=Sum.inr (ps[j]).1) (v:=V.int (ps[j]).2) rel (by unfold aX;rw[Qi,Qc hp];rfl);rw[e1]at e4;cases e4;obtain⟨tu,rfl⟩:=e5;rcases bI (show je (Sum.inr (ps[j]).1) key=true from e2) with⟨i,t,z,_⟩|⟨y,t,z,rfl⟩
  ·cases z
  cases z;dsimp only;rw[nd.idxOf_getElem,QU,Qc hp];exact⟨_,_,_,t,tu,e3,rfl,rfl,rfl⟩
 ·obtain⟨as,kf,rfl,e,p,_⟩:=g;have la:as.length=ps.length:=by rw[<-e,Qa]
  exact{by rw[Qa,la];exact hz,Tm.sq p eD _}
 obtain⟨as,kf,rfl,e,p,ab⟩:=g1;obtain⟨bs,pm,eo⟩:=mF p1 as rfl;have la:as.length=ps.length:=by rw[<-e,Qa]
 have lb:bs.length=ps.length:=pm.length_eq.trans la;have mem:∀{b},b∈bs->b∈as:=λhb=>pm.mem_iff.mp hb
 have neD:∀{b},b∈bs->b≠D:=λ{b} hb zz=>by
  obtain⟨o,_,_,_,_,g,_⟩:=p b (mem hb);exact absurd (Qm g) (by rw[zz];exact Nat.not_lt.mpr hD)
 let H2:Hp:=λb=>if b=D then -.lst (bs.map V.ref) else if b∈bs then -.tup [.str (kf b).1,.int (kf b).2] else H b;have h2D:H2 D=-.lst (bs.map V.ref):=QF rfl;have h2b:∀b∈bs,H2 b=-.tup [.str (kf b).1,.int (kf b).2]:=λb hb=>(QE (neD hb)).trans (QF hb);have h2o:∀b,b<s.heap.objs.size->H2 b=H b:=λb hb=>(QE (Qz (QG hb hle))).trans (QE λzz=>absurd (ab b (mem zz)) (Nat.not_le.mpr hb));refine{.ref D,H2,I.laidAll (t':=tk) (λb o g=>k2 b o (k1 b o g)) h2o λb u hb e=>?_,rfl,q D bs kf H2 (λb u e=>by rw[h2o b (I.hok.lt e)];exact e) (I.hok.fresh hle) (by rw[<-e];exact pm.map _) ?_ h2b h2D}
 ·by_cases cD:b=D
  ·subst cD;rw[h2D]at e;cases e;exact{by rw[Qa,lb,XC];exact QY hz (by decide),out.toList,m,by rw[eo];exact iK bs,at'}
  by_cases cb:b∈bs
  ·rw[h2b b cb]at e;cases e;obtain⟨o,its,n,t,u,g,hc',hd,l⟩:=p b (mem cb);exact{by simp[XC],its.toList,by rw[l];exact .cons ⟨t,rfl⟩ (.cons ⟨u,rfl⟩ .nil),o,k2 _ _ g,hc',n,by rw[hd]}
  have:H2 b=H b:=(QE cD).trans (QE cb);rw[this,I.hok.fresh hb]at e;cases e
 rw[eo,XN]at p2;refine p2.imp_of_mem λ{x y} hx hy h=>?_;have h:Tm.lZ ((Tm.ku h1 (.ref y)).getD ([],0)) ((Tm.ku h1 (.ref x)).getD ([],0))=false:=h;rw[Tm.pY p (mem hx),Tm.pY p (mem hy)]at h;exact λz=>(Tm.jC.mp h) (.inl z)
end
section
variable {X:Cx}
def AO:List V->Hp->VK->Prop:=λxs H Q=>∃a kvs,xs=[.ref a]/\Rd H a (.dK kvs)/\∀l,H l=none->Q (.ref l) (upd H l (.lst (kvs.map λp=>kV p.1)))
theorem lr (hc:X.calm=true):d6 X (.type "list") AO:=by
 intro pins s U H xs us Q I r h;obtain⟨a,kvs,rfl,rd,q⟩:=h;obtain⟨u,rfl,ru⟩:=d8 r;cases ru;obtain⟨z,hm,vs,rel,dd⟩:=jh I.hok rd;obtain⟨ep,da⟩:=dd.dictAt;have lv:=KV.len rel;refine PySem.W.kdl_call (PySem.W.kdl_dict (knd:=bq X.prog X.w) (kvs:=vs) (ep:=ep) hm) (I.ok.hd hc) da (by rw[<-lv];exact z) λh' tk acc c k at' it=>?_
 have rv:ba (kvs.map λp=>kV p.1) acc.toList:=by
  refine paired_get (by rw[Qa,show acc.toList.length=acc.size from Qs,it.1,lv]) λj x y e1 e2=>?_;obtain⟨k',x',e3,e4⟩:=it.2 j y (by rw[<-QA];exact e2);rw[Qi]at e1
  cases e5:kvs[j]? with
  | none=>rw[e5]at e1;cases e1
  | some p =>
  rw[e5]at e1;cases e1;obtain⟨u,hu,_⟩:=KV.get (i:=j) (k:=p.1) (v:=p.2) rel e5;rw[e3]at hu;cases hu;exact wX e4
 exact{.ref s.heap.objs.size,_,I.laid (o:=.lst (kvs.map λp=>kV p.1)) (t':=tk) k (Qh _) {by rw[Qa];exact z,acc.toList,c,rv,at'},rfl,q _ (I.hok.fresh (Qh _))}
end
end L2
namespace L2
open PySem PySem.Spec PyProof.Rows
open AutoSeq1 (wpAny_loadPart')
section
variable {A:Around} {s:Shared} {l:Addr}
end
section
variable {X:Cx}
def gS (y z:Str):Str:=if stripSame y.cps.contains true true z then z else stripped y.cps.contains true true z
def AI:V->List V->Hp->VK->Prop:=λx vs H Q=>∃(z y:Str),x=.str z/\vs=[.str y]/\z.length<=sizeLine/\Q (.str (gS y z)) H
theorem wM:MtR X "str.strip" AI:=by
 intro pins s U H x vs v us Q I rx rv h;obtain⟨z,y,rfl,rfl,hz,q⟩:=h;obtain⟨t,rfl⟩:=rx;obtain⟨u1,rfl,u,rfl⟩:=d8 rv;refine call_gives F.slot_str_strip (typeIs_str _ _ _) F.entry_str_strip (F.args_str_strip_2 _ _) (gives_str_strip_chars z y t u) ?_;unfold gS at q;cases c:stripSame y.cps.contains true true z
 ·rw[c,QE (by decide)]at q;rw[QE (by decide)];exact{fits_stripped _ _ _ hz,{.str _,H,I.tok _,⟨_,rfl⟩,q} }
 rw[c,QF rfl]at q;rw[QF rfl];exact{.str _,H,I,⟨_,rfl⟩,q}
theorem vv {p:Nat->Bool}:∀{xs:List Nat},(∀x∈xs,p x=true)->xs.takeWhile p=xs
 | [],_=>rfl
 | x::xs,h=>by rw[List.takeWhile_cons,QF (h x (by simp)),vv λy hy=>h y (Qx _ hy)]
theorem vq {p:Nat->Bool}:∀{xs:List Nat} {i:Nat} {x:Nat},xs[i]?=-x->p x=false->(xs.takeWhile p).length<=i
 | y::xs,0,x,e,h=>by
  cases e;rw[List.takeWhile_cons,h];exact Qh 0
 | y::xs,i+1,x,e,h=>by
  rw[List.takeWhile_cons];have:=vq (xs:=xs) (i:=i) (x:=x) (~~~e) h
  split
  ·rw[QT];omega
  exact QB _
theorem mx {y z:Str}:(gS y z=Str.empty)↔∀c∈z.cps.toList,y.cps.contains c=true:=by
 have zl:z.cps.toList.length=z.length:=Qs ..
 have nil:∀w:Str,w=Str.empty↔w.length=0:=λw=>{λh=>by rw[h];rfl,λh=>by
  obtain⟨a⟩:=w
  exact congrArg Str.mk (Array.size_eq_zero_iff.mp h)}
 constructor
 ·intro h c hc;by_cases hb:y.cps.contains c=true
  ·exact hb
  have hb:y.cps.contains c=false:=by simpa using hb
  exfalso;rw[nil]at h;obtain⟨i,hi,ei⟩:=Qo.mp hc;have e1:z.cps.toList[i]?=-c:=by rw[Qc hi,ei]
  have lo:=vq e1 hb;unfold gS at h
  split at h
  ·omega
  unfold stripped stripHi stripLo at h;simp only[if_true]at h;generalize hL:(z.cps.toList.takeWhile y.cps.contains).length=L at *
  have e2:((z.cps.toList.drop L).reverse)[z.length-1-i]?=-c:=by
   rw[List.getElem?_reverse (by rw[Q5];omega),Q5,XT];rw[show L+(z.cps.toList.length-L-1-(z.length-1-i))=i by omega];exact e1
  have hi2:=vq e2 hb;rw[size_strSub _ _ _ ⋯]at h;omega
 intro h;rw[nil];unfold gS;have e1:=vv h
 split
 ·rename_i c
  unfold stripSame at c;simp only[Xj,beq_iff_eq]at c;have:=c.1;unfold stripLo at this;rw[QF rfl,e1]at this;omega
 unfold stripped stripHi stripLo;simp only[if_true];rw[e1,size_strSub _ _ _ ⋯];omega
end
end L2
namespace L2
open PySem PySem.Spec PyProof.Rows
section
variable {X:Cx}
def pc (a:Addr):Obj:={ cls:=.type "dict_values", data:=.fields #[.ref a] }
def yZ (tl:TE):TE:=λU H Q=>tl U H λx H1=>∃a kvs,x=.ref a/\H1 a=-.dK kvs/\∀r,H1 r=none->Q (.ref r) (upd H1 r (cT (pc a)))
theorem ya {l:Expr} {tl:TE} {apos pos:Pos} (hl:PE X l tl) (hbase:attributeBase l "values" X.env (eval l X.env)=eval l X.env:=by rfl) (hline:(apos.endLine==pos.line)=true:=by rfl):PE X (.Call (.Attribute l "values" apos) [] [] pos) (yZ tl):=by
 intro pins s U H Q I h;refine wpAny_Call_method (T := "dict") (id := "dict.values") hbase rfl hline F.plainAttrs_dict F.slot_dict_values F.type_dict_values (thn (hl pins s U H _ I h) λv s1 ⟨x,H1,I1,r1,q1⟩=>?_);obtain⟨a,kvs,e,hz,q⟩:=q1;subst e;cases r1;obtain⟨z,hm,vs,rel,dd⟩:=mT I1.hok hz;refine{dd.typeIs,dd.mapOf.noDict,?_};show wpAny _ _ (callWith pos (.builtin "dict.values") [.ref a] [] []) _ _ s1;refine method_meetsIn F.slot_dict_values F.entry_dict_values rfl (PySem.evalArgs_none {rfl,dd.typeIs,F.args_dict_values_1 _,_,meets_dict_values (bq X.prog X.w) a hm,⟨vs,dd⟩,?_});exact{.ref s1.heap.objs.size,_,I1.laid (t':=s1.toks) (o:=cT (pc a)) (λb o e=>Qd _ e) (Qh _) (oQ (Qr _ rfl)),rfl,q _ (I1.hok.fresh (Qh _))}
def BZ:List V->Hp->VK->Prop:=λxs H Q=>∃(r a:Addr) (ps:J9),xs=[.ref r]/\H r=-cT (pc a)/\H a=-.dK (aX ps)/\ps≠[]/\∀n,(∃p∈ps,p.2=n)->(∀p∈ps,p.2<=n)->Q (.int n) H
theorem ve (hc:X.calm=true):d6 X (.builtin "max") BZ:=by
 intro pins s U H xs us Q I r h;obtain⟨rv,a,ps,rfl,hr,ha,ne,q⟩:=h;obtain⟨u,rfl,ru⟩:=d8 r;cases ru;obtain⟨er,_⟩:=(show bG X.prog X.w H s.heap rv (cT (pc a)) from I.hok rv _ hr);obtain⟨z,hm,vs,rel,dd⟩:=mT I.hok ha;obtain⟨ep,da⟩:=dd.dictAt;have lv:vs.length=ps.length:=by rw[<-KV.len rel];unfold aX;rw[Qa]
 have pos:0<ps.length:=List.length_pos_iff.mpr ne;let val:Nat->Int:=λi=>((ps[i]?).map (·.2)).getD 0
 have hval:∀(i:Nat) (v:Value),(∃k,vs[i]?=-(k,v))->∃t,v=.int (val i) t:=λi v ⟨k,e⟩=>by
  have hi:i<ps.length:=by rw[<-lv];exact(Qe.mp e).1
  obtain⟨u,e4,e5⟩:=KV.get (i:=i) (k:=Sum.inr (ps[i]).1) (v:=V.int (ps[i]).2) rel (by unfold aX;rw[Qi,Qc hi];rfl);rw[e]at e4;cases e4;obtain⟨tu,rfl⟩:=e5;exact{tu,by show _=Value.int (((ps[i]?).map (·.2)).getD 0) _;rw[Qc hi];rfl}
 refine call_max_walkS ?_;have K:=PySem.W.kdl_values (prog:=X.prog) (w:=X.w) (r:=rv) (d:=a) (knd:=bq X.prog X.w) (kvs:=vs) (ep:=ep);obtain⟨oI,St,hit,W,st⟩:=K.iter X.A.in1 s (I.ok.hd hc) {⟨_,er,rfl,rfl⟩,da};refine hit _ _ {s.heap.objs.size,_,_,_,vs.length,_,_,_,rfl,W.toS,st,λb hb=>?_,⋯,CmpOf.ints_gt val hval,λv s' hP hm=>?_}
 ·show b<(s.heap.push oI).objs.size;rw[size_push'];rcases QP.mp hb with e|hb
  ·rw[e];exact XW _
  rw[Qu.mp hb];exact Nat.lt_succ_of_lt (K.there _ {⟨_,er,rfl,rfl⟩,da}).2
 have hk:∀b o,s.heap.get? b=-o->s'.heap.get? b=-o:=λb o e =>
  hm.heap b o (λhI=>absurd (Qm e) (by rw[Qu.mp hI];exact Nat.lt_irrefl _)) (Qd _ e)
 rw[Moved.eq_with hm];obtain⟨t,rfl⟩:=hval _ v hP;obtain⟨b1,b2⟩:=argBest_gt val (vs.length-1);have at':∀{i:Nat} (h:i<ps.length),val i=(ps[i]).2:=λ{i} h=>by show ((ps[i]?).map (·.2)).getD 0=_;rw[Qc h];rfl
 refine{.int _,H,I.laidAll hk (λ_ _=>rfl) λb u hb e=>absurd (I.hok.lt e) (Nat.not_lt.mpr hb),⟨t,rfl⟩,q _ {_,Xo ⋯,(at' ⋯).symm} λp hp=>?_};obtain⟨i,hi,rfl⟩:=Qo.mp hp;have:=b2 i ⋯;rw[at' hi]at this;exact this
end
end L2
section
open PySem PySem.W PyProof.Rows
variable {a b c d e f g h i j k l m n o p q r s t u v w:Nat}
local macro_rules | `(tactic| kd_p) => `(tactic| (intros; first | walk_at "t" | (subst_vars; walk_at "t")))
local macro_rules | `(tactic| walk_at "t") => `(tactic| solve_by_elim (maxDepth := 3) [Xx, QG, Xy, QY, Nat.lt_of_not_ge, Nat.lt_of_not_le, Nat.le_of_not_lt, Nat.ge_of_not_lt, Nat.le_add_right, Nat.le_add_left, Nat.sub_le, XW, Nat.le_succ, Nat.add_le_add_left, Nat.add_le_add_right, Nat.add_lt_add_left, Nat.add_lt_add_right, Nat.succ_le_of_lt, Nat.lt_of_succ_le, Nat.le_of_eq, Nat.le_antisymm, Nat.lt_of_le_of_ne, Qh, QB, Nat.sub_lt, Nat.succ_le_succ, Nat.lt_succ_of_le, Nat.le_of_lt_succ, Eq.symm, Eq.trans])
theorem oq0:b=11->a<11->a<b:=by kd_p
theorem oq1:b=11->c<11->a<11->a<b:=by kd_p
theorem oq2:1<=a->1<=a:=by kd_p
theorem oq3:a<=7->a<=7:=by kd_p
theorem oq4:1<=b->b<=7->a<b->a<11:=by kd_p
theorem oq5:1<=a->a<=7->0<a:=by kd_p
theorem oq6:a<=3->a<=5:=by kd_p
theorem oq7:d=e->e<=7->1000<c->a<d->min a b<c:=by kd_p
theorem oq8:a<=a:=by kd_p
theorem oq9:b<=4->c<=7->d=c->a=b+c->a<1000:=by kd_p
theorem HU:d=e->c=a+e->b<d->a+b<c:=by kd_p
theorem Dn:a<=a+b:=by kd_p
theorem Df:a+b-a=b:=by kd_p
theorem A1:a<=b->a<=b+1:=by kd_p
theorem C9:a<=b->a<=b:=by kd_p
theorem HS:b<=63->a<=b->a<=63:=by kd_p
theorem HR:a<=500->1000<b->a<b:=by kd_p
theorem HQ:a<=200+2*b->a<=200+2*(b+1):=by kd_p
theorem HP:b<=63->a<=200+2*c->c<b->a<=500:=by kd_p
theorem HN:b<=63->c<=200+2*d->d<b->a=c+1->a<=500:=by kd_p
theorem HM:d=b+c->a=d+1->a=b+(c+1):=by kd_p
theorem HL:b<=128->a=b->a<=128:=by kd_p
theorem HK:b<=128->a=b->0<b->1<=a:=by kd_p
theorem wa:c=b->a<c->a<b:=by kd_p
theorem HI:1<=c->c<=128->1000<b->a=d->d<c->a<b:=by kd_p
theorem HH:1<=b->b<=128->a=b->1<=a:=by kd_p
theorem HG:1<=b->b<=128->a=b->a<=128:=by kd_p
theorem HF:b<=128->a=b->c=a->a<=100000:=by kd_p
theorem HE:b<=128->c=b->d=c->a=c->0<b->1<=a:=by kd_p
theorem HD:b=c->d=c->e=d->a<c->a<b:=by kd_p
theorem HC:100000<b->a<=1->a<b:=by kd_p
theorem Hz:a<=2->a<=3:=by kd_p
theorem Hy:100000<b->a<=2->a<b:=by kd_p
theorem Hw:100000<b->a<=3->a<b:=by kd_p
theorem Hv:100000<b->a<=3+1->a<b:=by kd_p
theorem Hu:a<=a+1:=by kd_p
theorem Ht:d<=b+1->a<=d+c->a<=b+(c+1):=by kd_p
theorem Cd:b<4000->a=b->a<10000:=by kd_p
theorem Hs:b<4000->100000<c->d=b->a<d->min a b<c:=by kd_p
theorem Hr:b<4000->c=b->a<=b->a<=100000:=by kd_p
theorem Hq:100000<b->a<=1000->a<=b:=by kd_p
theorem Ho:100000<b->c<=11->a=c->a<=b:=by kd_p
theorem Hl:100000<b->c<=11->d=c->a=d->a<=b:=by kd_p
theorem yh:a<b+1->¬a<b->a=b:=by kd_p
theorem Hj:1000<b->c<1000->d<c->a=d->a<b:=by kd_p
theorem Cc:a<=0->1<=a->False:=by kd_p
theorem Cb:a+1<=b+1->a<=b:=by kd_p
theorem yg:max a c+1<=b+1->a<=b:=by kd_p
theorem yf:max c a+1<=b+1->a<=b:=by kd_p
theorem Hi:1<=b->b<=7->a<b->c=a->a+2<11:=by kd_p
theorem Ca:1<=b->b<=7->a<b->c=a->a+1<11:=by kd_p
theorem B_:1<=b->b<=7->a<b->c=a->a<11:=by kd_p
theorem B9:1<=c->c<=7->1000<b->d<c->a=d->a<b:=by kd_p
theorem Hh:1<=a->a<=7->a+1<11:=by kd_p
theorem Hg:1<=b->b<=7->(a+1) % b<b->(a+1) % b<11:=by kd_p
theorem He:b=a->¬4+a=2:=by kd_p
theorem Hd:b=a->¬4+a=3:=by kd_p
theorem G_:b=a->4+a-2=2+a:=by kd_p
theorem G9:b=a->4+a-1=3+a:=by kd_p
theorem G8:b<=3->a<b->c=a->4+a<11:=by kd_p
theorem G7:b<=3->a<b->c=a->2+a<11:=by kd_p
theorem G6:b<=3->a<b->c=a->3+a<11:=by kd_p
theorem G0:1000<b->c<=3->d<c->a=d->a<b:=by kd_p
theorem GZ:1000<b->c<=3->a=c->2+a<=b:=by kd_p
theorem B8:c<=b->a<=c->a<=b:=by kd_p
theorem GY:d+e<=1000->100000<c->a<=d->b<=e->a+b<=c:=by kd_p
theorem GX:a<=c->b<=d->a+b<=c+d:=by kd_p
theorem GW:b<=1000->a<=b->a<=100000:=by kd_p
theorem GV:a<=11->a<=30:=by kd_p
theorem A0:100000<b->1<=a->a<=11->a<=b:=by kd_p
theorem B7:1<=a->a<=11->a<=30:=by kd_p
theorem GU:100000<b->a=4->a<=b:=by kd_p
theorem GT:100000<b->a=2->a<=b:=by kd_p
theorem GS:100000<c->a=4->b=2->a+b<=c:=by kd_p
theorem GR:a=4->b=2->a+b=6:=by kd_p
theorem GQ:100000<b->a=3->a<=b:=by kd_p
theorem GP:100000<b->1<=a->a<=11->a+1<=b:=by kd_p
theorem GO:1<=a->a<=11->a+1<=30:=by kd_p
theorem GN:100000<c->a=6->b=3->a+b<=c:=by kd_p
theorem GM:a=6->b=3->a+b=9:=by kd_p
theorem GK:a<=11->a<=11:=by kd_p
theorem GJ:100000<b->a<=11->a+1<=b:=by kd_p
theorem GI:a<=11->a+1<=12:=by kd_p
theorem GH:100000<c->b<=11->a<=12->a+b<=c:=by kd_p
theorem GG:b<=11->a<=12->a+b<=30:=by kd_p
theorem GF:100000<b->a=9->a<b:=by kd_p
theorem GE:0<=a->a<=129->a<=400:=by kd_p
theorem GD:a<b->min (a+1) b=a+1:=by kd_p
theorem ye:a=b->a<=b:=by kd_p
theorem GC:a<=128*b->a<=128*b+0:=by kd_p
theorem GB:b=c->c=d->e=c->a<c->a<b:=by kd_p
theorem GA:d<=128*b+c->a<=d+1->a<=128*b+(c+1):=by kd_p
theorem Gz:a+1<=b->min (a+1) b=a+1:=by kd_p
theorem Gw:a=b->c=a->d=a+1->d<b->False:=by kd_p
theorem B6:b=c->a<c->a<b:=by kd_p
theorem Gv:a=c->¬b<c->a<=b:=by kd_p
theorem B5:c=b->¬a<b->a-c=0->a=b:=by kd_p
theorem Du:b<=a->¬b<a->a<=b:=by kd_p
theorem Dt:0<a+1:=by kd_p
theorem Ds:c=a+1->c<=b->a<b:=by kd_p
theorem Dr:a=b+1->a<=b->False:=by kd_p
theorem zS:b=a->a<=b:=by kd_p
theorem zR:b=a->a=b:=by kd_p
theorem Dq:d<=7->b<=7*c->a<=d->a+b<=7*(c+1):=by kd_p
theorem Dp:100000<b->c<=7*2048+7->a<=c->a<b:=by kd_p
theorem Do:b=a->a<=2048->a<=100000:=by kd_p
theorem wc:b=c->d=c->a<c->a<b:=by kd_p
theorem zQ:b<a->a-(b+1)<a-b:=by kd_p
theorem zP:a<b->a+1<=b:=by kd_p
theorem Dm:b<=128->a=b->a<=100000:=by kd_p
theorem Dl:100000<b->a=c->c<=11->a+1<=b:=by kd_p
theorem Dj:0<=a/\a<=30->a<=1000:=by kd_p
theorem Di:b<c->a+b<a+c:=by kd_p
theorem Dh:b<=a->min a b=b:=by kd_p
theorem Dg:b<=a->c=b->¬b<a->a=b:=by kd_p
theorem De:a=c->c<b->a<=b:=by kd_p
theorem Dd:a=b->b<c->d<min b c->d=b->False:=by kd_p
theorem zO:¬b<a->a<=b:=by kd_p
theorem Dc:c=b->¬a<c->a-c=0->a=b:=by kd_p
theorem zN:c<=100000->200000<b->a<=c->a<b:=by kd_p
theorem Db:c=a->a<d->d<=b->a+1<=b:=by kd_p
theorem Da:c=a->a<b->a+1<=b:=by kd_p
theorem C_:c=d->d<b->a<d+1->a<b:=by kd_p
theorem zM:a+1<b+1->a<b:=by kd_p
theorem zL:a+1<=b->a<=b:=by kd_p
theorem C8:b<c->c<=a->b+1>=a->a=b+1:=by kd_p
theorem zK:a=b->a=b:=by kd_p
theorem C7:a+1<=8*b+1->a<=8*b+1:=by kd_p
theorem C6:b=c->a=b->a<=b:=by kd_p
theorem C5:¬a<b->a<b+1->a=b:=by kd_p
theorem C4:a=c->b=c->a=b:=by kd_p
theorem C3:d<=1000->b=d->1000<c->a<d->min a b<c:=by kd_p
theorem C2:a=b->b<=7->a<=1000:=by kd_p
theorem C1:b<=7->a<=4->1000<c->a+b<=c:=by kd_p
theorem C0:a<=1000->1000<b->a<=b:=by kd_p
theorem CZ:b<=11->a=b->a<=1000:=by kd_p
theorem CY:a<c->b=c->a<b:=by kd_p
theorem CW:a<=4->b<=7->a+b<1000:=by kd_p
theorem CV:a+b+1=a+(b+1):=by kd_p
theorem CU:a+b+c=a+c+b:=by kd_p
theorem CS:c<=b->a<=c->a+1<=b+1:=by kd_p
theorem CQ:c<b->a<min c b->a<b:=by kd_p
theorem CP:a<b->c<min a b->c=a->False:=by kd_p
theorem zJ:a<b->a<=b:=by kd_p
theorem CO:a-b=0->a-b=0:=by kd_p
theorem CN:¬a<b->a-b=0->a=b:=by kd_p
theorem CM:b<c->a<min b c->a<b:=by kd_p
theorem CL:c<=d->c=e->d<e->a<=b:=by kd_p
theorem CK:a<=b->a+1<=b+1:=by kd_p
theorem CJ:a<=b+1->a<=b+1+1:=by kd_p
theorem CI:a+1<=a+1+1:=by kd_p
theorem zI:d=b->b<4000->100000<c->a<d->min a b<c:=by kd_p
theorem CG:d=b->e=b->c=a->a<b->min a b=c:=by kd_p
theorem CF:c=b->d=b->e=a->a<b->min a b=a:=by kd_p
theorem CD:c=d->b=d->a<d->a<b:=by kd_p
theorem CC:c=b->d=b->¬a<b->a-c=0->a=b:=by kd_p
theorem CB:a<=2048->a<=2048:=by kd_p
theorem zH:2+2*a=2*(a+1):=by kd_p
theorem CA:100000<b->a=c->c<4->a<b:=by kd_p
theorem Cz:a=b->a=4->2*a+a*0<=16777216:=by kd_p
theorem zF:a=8->1<=a:=by kd_p
theorem wb:100000<b->a=8->a<=b:=by kd_p
theorem Cy:100000<b->c<11->a=c->a+1<=b:=by kd_p
theorem Cw:9<=b->b<=20000->a=8->a<b:=by kd_p
theorem tm:100000<b->9<=c->c<=20000->a<c->a<=b:=by kd_p
theorem Cv:1<=a+1:=by kd_p
theorem Cu:b=2*c->d<c->a<=d->a+1<b:=by kd_p
theorem Ct:1<=a+1+b:=by kd_p
theorem Cs:c=2*d->e<d->a<=e->b<=e->a+1+b<c:=by kd_p
theorem Cr:9<=c->c<=20000->b=2*c->1<=a->a<=8->a<b:=by kd_p
theorem Cq:b<=11->a<b->¬a+1<b->a=b-1:=by kd_p
theorem Cp:a<=11->b<a->¬b+1<a->b=a-1->1<=a:=by kd_p
theorem Co:a<=11->a<=26:=by kd_p
theorem Cn:b<11->c=b->a<=11->a<=c->a+1<=11:=by kd_p
theorem Cm:a<=11->a<26:=by kd_p
theorem Cl:9<=c->c<=20000->b=2*c->a=8->a<b:=by kd_p
theorem Ck:100000<b->c<11->a=c->a<b:=by kd_p
theorem Cj:a<11->b=a->a+1<=11:=by kd_p
theorem Ci:b=2*c->1<=a->a<c->a<b:=by kd_p
theorem Ch:a-b<=a-b:=by kd_p
theorem zE:1<=b->b<=7->c=a+b->d=a+b->a<=a+b:=by kd_p
theorem Cg:1<=a->a<=6->a<=10:=by kd_p
theorem Cf:1<=b->b<=6->a<=b->a<=6:=by kd_p
theorem Ce:a<=6->a<=10:=by kd_p
end
namespace K2
open PySem L2
abbrev IvF:=Nat->St->Hp->Prop
abbrev IvC:=Nat->Hp->List V->Prop
abbrev IvJ:=St->Hp->Prop
variable {X:Cx}
theorem jF {K:PySem.W.Frag} (h:X.K=K):IxR X (pV K):=by subst h;exact bd
variable {H H':Hp} {U:St} {td ty tv tl:TE}
theorem iJ {D:Ends} (q:tv U H λv H1=>td U H1 λx H2=>ty U H2 λy H3=>∃a H4,x=.ref a/\iC H3 a y v H4/\D.nx U H4):zk td ty tv D U H:=q
theorem F6 {Q:VK} (q:ty U H λy H1=>td U H1 λx H2=>∃a o,x=.ref a/\cO H2 a y o/\Q (.bl o.isSome) H2):BU ty td U H Q:=q
theorem eT {Q:VK} (q:ty U H λy H1=>td U H1 λx H2=>∃a o,x=.ref a/\cO H2 a y o/\Q (.bl (!o.isSome)) H2):sK ty td U H Q:=q
theorem sV {t:TS} {D:Ends} {a:Addr} {u:HO} (r:Rd H a u) (f:Fz u) (q:∀o,t (yY D H a o u) U (upd H a (.frz o u))):BQ t D U H:=⟨a,u,r,f,q⟩
theorem fE {R:It->Hp->Prop} (q:tl U H λx H1=>∃a o kvs,x=.ref a/\H1 a=-.frz o (.dK kvs)/\R (Itd a o kvs) H1):w6 tl U H R:=q
theorem d5 {K:PySem.W.Frag} (h:X.K=K):IxR X (rh K):=by subst h;exact aH
structure Txt (K:PySem.W.Frag) (mg:J6) (TT:Addr):Prop where
 n_len:mg "len" = none
 n_range:mg "range" = none
 n_max:mg "max" = none
 n_min:mg "min" = none
 n_int:mg "int" = none
 n_list:mg "list" = none
 n_str:mg "str" = none
 n_isinstance:mg "isinstance" = none
 n_all:mg "all" = none
 n_set:mg "set" = none
 n_dict:mg "dict" = none
 n_enumerate:mg "enumerate" = none
 n_sorted:mg "sorted" = none
 n_tuple:mg "tuple" = none
 n_bool:mg "bool" = none
 n_zip:mg "zip" = none
 n_reversed:mg "reversed" = none
 n_abs:mg "abs" = none
 tURNED:mg "TURNED" = -.ref TT
 tab:sH K TT [("0", .flat (.str "1")),("1", .flat (.str "0"))]
inductive Rl where
 | w (n:Str)|no (r:Rl)|an (a b:Rl)|orr (a b:Rl)
def Rl.ok (ns:List Str):Rl->Prop
 | .w n=>n∈ns
 | .no r=>r.ok ns
 | .an a b=>a.ok ns/\b.ok ns
 | .orr a b=>a.ok ns/\b.ok ns
def Rl.dep:Rl->Nat
 | .w _=>1
 | .no r=>r.dep+1
 | .an a b=>max a.dep b.dep+1
 | .orr a b=>max a.dep b.dep+1
def Rl.val (f:Str->Bool):Rl->Bool
 | .w n=>f n
 | .no r=>!r.val f
 | .an a b=>a.val f&&b.val f
 | .orr a b=>a.val f || b.val f
inductive RAt (H:Hp):V->Rl->Prop where
 | w {a:Addr} {n:Str}:H a=-.tup [.str "wire", .str n]->RAt H (.ref a) (.w n)
 | no {a:Addr} {v:V} {r:Rl}:H a=-.tup [.str "not", v]->RAt H v r->RAt H (.ref a) (.no r)
 | an {a:Addr} {v u:V} {r s:Rl}:H a=-.tup [.str "and", v,u]->RAt H v r->RAt H u s->RAt H (.ref a) (.an r s)
 | orr {a:Addr} {v u:V} {r s:Rl}:H a=-.tup [.str "or", v,u]->RAt H v r->RAt H u s->RAt H (.ref a) (.orr r s)
def dH (H H':Hp):Prop:=∀b xs,H b=-.tup xs->H' b=-.tup xs
theorem ao.tups (S:ao H H'):dH H H':=λb xs e=>S b _ e
theorem RAt.mono (hs:dH H H') {v:V} {r:Rl} (h:RAt H v r):RAt H' v r:=by
 induction h with
 | w e=>exact .w (hs _ _ e)
 | no e _ ih=>exact .no (hs _ _ e) ih
 | an e _ _ i1 i2=>exact .an (hs _ _ e) i1 i2
 | orr e _ _ i1 i2=>exact .orr (hs _ _ e) i1 i2
def GAt (H:Hp) (v:V) (g:Str × Rl):Prop:=∃b rv,v=.ref b/\H b=-.tup [.str g.1,rv]/\RAt H rv g.2
theorem GAt.mono (hs:dH H H') {v:V} {g:Str × Rl} (h:GAt H v g):GAt H' v g:=let ⟨b,rv,e,h1,h2⟩:=h;{b,rv,e,hs _ _ h1,h2.mono hs}
abbrev J8:=List (Str × Rl)
structure NAt (H:Hp) (a li lg:Addr) (ins:List Str) (vs:List V) (gs:J8):Prop where
 ha:H a=-.tup [.ref li,.ref lg]
 hi:H li=-.lst (ins.map V.str)
 hg:H lg=-.lst vs
 gates:Paired (GAt H) vs gs
theorem kS {H:Hp}:∀{vs:List V} {gs:J8},Paired (GAt H) vs gs->∀x∈vs,∃a,x=V.ref a
 | _,_,.nil=>λx hx=>nomatch hx
 | _,_,.cons h t=>λx hx=>by
  rcases QP.mp hx with e|hx
  ·obtain⟨b,_,e',_⟩:=h;exact{b,e.trans e'}
  exact kS t x hx
theorem bD {H H':Hp} (hs:dH H H'):∀{vs:List V} {gs:J8},Paired (GAt H) vs gs->Paired (GAt H') vs gs
 | _,_,.nil=>.nil
 | _,_,.cons h t=>.cons (h.mono hs) (bD hs t)
theorem NAt.same {a li lg:Addr} {ins:List Str} {vs:List V} {gs:J8} (S:ao H H') (h:NAt H a li lg ins vs gs):NAt H' a li lg ins vs gs:={S _ _ h.ha,S _ _ h.hi,S _ _ h.hg,bD (ao.tups S) h.gates}
def aq (ins:List Str) (gs:J8):List Str:=ins++gs.map (·.1)
structure NetOk (ins:List Str) (gs:J8):Prop where
 nd:(aq ins gs).Nodup
 i4:ins.length<=4
 g1:1<=gs.length
 g7:gs.length<=7
 rules:∀g∈gs,g.2.ok (aq ins gs)/\g.2.dep<=10
structure StOk (n:Nat) (z:Str):Prop where
 len:z.cps.size=n
 signs:∀c∈z.cps.toList,c=48\/c=49
def sg (b:Bool):V:=if b then .str "1" else .str "0"
def sgn (names:List Str) (z:Str) (n:Str):Bool:=z.cps.getD (names.idxOf n) 0==49
def DFn (kvs:List (Key × V)) (names:List Str) (f:Str->Bool):Prop:=∀n∈names,bi kvs (Sum.inr n:Key)=-sg (f n)
theorem dX {K:PySem.W.Frag} (h:X.K=K):d6 X (.builtin "len") (λxs H Q=>∃p ys,xs=[.ref p]/\(SqL K H p ys\/SqT K H p ys)/\Q (.int ys.length) H):=by subst h;exact aM
variable {pos p:Pos} {es a:List Expr}
theorem n_ {K:PySem.W.Frag} {k:Nat} {t:TGs} {n:Nat} (hK:X.K=K) (hc:X.calm=true) (h:PGs X es t)
  (hn:(assignEach es X.env).length=n:=by rfl) (hst:(assignEach es X.env).findIdx? (·.1)=none:=by rfl):PG X (.Tuple es k pos) (By K n t):=by subst hK;exact gY hc h hn hst
theorem de {A B:TS} {D:Ends} (J:St->Hp->Prop) (h:∀(R:St->Hp->Prop),(∀U H,J U H->R U H)->A { D with nx:=R } U H) (hJ:∀U H,J U H->B D U H):xQ A B D U H:=h (B D) hJ
variable {env:Env}
theorem se_tup {n:Nat}:starEach (.Tuple a n p::es) env=(false,eval (.Tuple a n p) env)::starEach es env:=by rfl
theorem se_lst:starEach (.List a p::es) env=(false,eval (.List a p) env)::starEach es env:=by rfl
theorem se_call {f:Expr} {k:List Keyword}:starEach (.Call f a k p::es) env=(false,eval (.Call f a k p) env)::starEach es env:=by rfl
theorem aK {c:Const} {n:Nat}:starEach (.Constant c n p::es) env=(false,eval (.Constant c n p) env)::starEach es env:=by rfl
theorem aj {x:Str}:starEach (.Name x p::es) env=(false,eval (.Name x p) env)::starEach es env:=by rfl
theorem se_bin {a b:Expr} {o:Operator}:starEach (.BinOp a o b p::es) env=(false,eval (.BinOp a o b p) env)::starEach es env:=by rfl
theorem se_lc {a:Expr} {g:List Comprehension} {sc:Scope}:starEach (.ListComp a g sc p::es) env=(false,eval (.ListComp a g sc p) env)::starEach es env:=by rfl
theorem se_sub {a b:Expr}:starEach (.Subscript a b p::es) env=(false,eval (.Subscript a b p) env)::starEach es env:=by rfl
theorem ja {α β:Type} {F:α->β->Prop}:∀{xs:List α} {ys:List β} {x:α} {y:β},Paired F xs ys->F x y->Paired F (xs++[x]) (ys++[y])
 | _,_,_,_,.nil,h=>.cons h .nil
 | _,_,_,_,.cons h t,g=>.cons h (ja t g)
theorem bZ {α β:Type} {F G:α->β->Prop} (h:∀a b,F a b->G a b):∀{xs:List α} {ys:List β},Paired F xs ys->Paired G xs ys
 | _,_,.nil=>.nil
 | _,_,.cons a t=>.cons (h _ _ a) (bZ h t)
theorem paired_get {α β:Type} {F:α->β->Prop}:∀{xs:List α} {ys:List β} {i:Nat} {x:α},Paired F xs ys->xs[i]?=-x->∃y,ys[i]?=-y/\F x y
 | _,_,_,_,.nil,e=>by simp at e
 | _,_,0,_,.cons r _,e=>by simp at e;subst e;exact⟨_,rfl,r⟩
 | _,_,i+1,x,.cons _ t,e=>by
  obtain⟨u,h1,h2⟩:=paired_get (i:=i) (x:=x) t (~~~e);exact{u,~~~h1,h2}
theorem ifT {c:Bool} {A B:Prop} (hc:c=true) (h:A):if c=true then A else B:=by rw[QF hc];exact h
theorem ifF {c:Bool} {A B:Prop} (hc:c=false) (h:B):if c=true then A else B:=by subst hc;exact du h
theorem aQ {D:Addr} {o:HO} (S:ao H H') (hD:H D=none):ao H (upd H' D o):=λb u e=>by rw[am (aG e hD)];exact S b u e
theorem aI {p:Addr} {o:HO} (h:H p=none) (e:upd H p o=H'):ao H H'/\H' p=-o:=by
 subst e;exact{ag h,ae}
theorem aU {α β:Type} {F:α->β->Prop}:∀{xs:List α} {ys:List β},Paired F xs ys->xs.length=ys.length
 | _,_,.nil=>rfl
 | _,_,.cons h t=>by simp[aU t]
end K2
namespace K2
open PySem L2
abbrev SqLofQ:=@SqL.of
abbrev i_cQ:=@i_c
abbrev i_callQ:=@bP
abbrev i_cbQ:=@c7
abbrev i_consQ:=@ak
abbrev i_ixLQ:=@bh
abbrev i_lstQ:=@cw
abbrev i_nilQ:=@aB
abbrev i_opQ:=@aO
abbrev i_rIQ:=@cZ
abbrev i_rI0Q:=@b_
abbrev i_varQ:=@ai
abbrev iteFQ:=@du
abbrev iteTQ:=@ce
abbrev pa_consQ:=@aa
abbrev pa_nilQ:=@af
abbrev pe_intQ:=@ad
abbrev pe_lstQ:=@aZ
abbrev pe_strQ:=@aP
abbrev pe_tupQ:=@br
abbrev pss_oneQ:=@a7
abbrev s_asgQ:=@bj
abbrev s_nameQ:=@au
abbrev s_retQ:=@bH
abbrev se_conQ:=@aK
abbrev se_nameQ:=@aj
local macro_rules | `(tactic| walk_at "vc") => `(tactic| first
 | ((refine' (?zz : (?zA → ?zG) → ?zA → ?zG) ?zr ?_); (case zr => with_reducible exact s_seqT); (case zz => exact fun _ q => q); intro D') | ((refine' (?zz : (?zA → ?zG) → ?zA → ?zG) ?zr ?_); (case zr => with_reducible first | exact s_asgQ | exact s_drop | exact s_retQ | exact s_if | exact s_sub | exact s_next | exact i_cQ | exact i_opQ | exact i_test | exact i_tB | exact i_and | exact i_or | exact i_not | exact i_andV | exact i_orV | exact i_notV | exact i_ifE | exact i_nilQ | exact i_consQ | exact i_cbQ | exact i_tup | exact i_lstQ | exact i_bm | exact i_sl | exact i_nopart | exact i_part | exact s_for | exact s_rng1 | exact s_list | exact s_str | exact i_dget | exact i_yes | exact i_un); (case zz => exact fun _ q => q))   | (with_reducible refine s_nameQ ?_)
 | ((with_reducible refine' i_varQ ?hv ?_); (case hv => exact rfl))   | (with_reducible first | refine i_rI0Q ?_ | refine i_callQ ?_ | refine s_strI ?_ | refine iteFQ ?_ | refine iteTQ ?_ | refine i_rU ?_)
 | ((with_reducible show ∃ i, V.int _ = V.int i ∧ _); (refine ⟨_, rfl, ?_⟩)) | ((with_reducible show ∃ k, V.bl _ = V.bl k ∧ _); (refine ⟨_, rfl, ?_⟩)) | ((with_reducible show (∃ i, [V.bl _] = [V.int i] ∧ _) ∨ _); (refine Or.inr ⟨_, rfl, ?_⟩))
 | ((with_reducible refine' i_ixLQ ?ha ?hb ?_); (case ha => exact SqLofQ (by assumption)); (case hb => exact rfl)) | ((with_reducible refine' i_ixT ?ha ?hb ?_); (case ha => assumption); (case hb => exact rfl))
 | ((with_reducible show ∃ p _, [V.ref _] = [V.ref p] ∧ (SqL _ _ _ _ ∨ SqT _ _ _ _) ∧ _); (refine' ⟨_, _, rfl, Or.inl (SqLofQ ?ha), ?_⟩); (case ha => assumption)) | ((with_reducible refine' s_setL ?ha ?hb ?_); (case ha => assumption); (case hb => exact rfl))
 | ((with_reducible refine' i_eq ?ha ?_); (case ha => exact rfl)) | ((with_reducible refine' i_ne ?ha ?_); (case ha => exact rfl))
 | ((with_reducible show ∃ z, V.str _ = V.str z ∧ _); (refine ⟨_, rfl, ?_⟩))
 | ((with_reducible refine' i_rIQ ?hv ?_); (case hv => first | decide | (dsimp only; omega) | exact .inl ⟨⋯, by omega⟩ | exact .inr ⟨⋯, by omega⟩ | exact ⟨by decide, by decide⟩ | exact ⟨by decide, by decide, by decide⟩ | exact ⟨⋯, by omega⟩))
 | ((with_reducible show ∃ i, [V.int _] = [V.int i] ∧ _); (refine ⟨_, rfl, ?_⟩))
 | ((with_reducible show tyV _ "list" _ _ ∧ _); (refine' ⟨i_tyL ?ha, ?_⟩); (case ha => assumption)))
local macro_rules | `(tactic| walk_at "p") => `(tactic| repeat' (with_reducible first | (refine' pss_oneQ ?_; rotate_left 1) | (refine' pss_cons ?_ ?_; rotate_left 2) | exact pss_nil | (refine' ps_if ?_ ?_ ?_; rotate_left 3)))
local macro_rules | `(tactic| walk_at "b") => `(tactic| (refine' pss_cons ?_ ?_; rotate_left 2; walk_at "p"))
local macro_rules | `(tactic| walk_at "f") => `(tactic| (refine' ps_for PassesOwn.never rfl ?_ ?_ ?_ (fun _ => rfl); rotate_left 3))
local macro_rules | `(tactic| walk_at "q") => `(tactic| repeat' (with_reducible first | exact pe_strQ | exact pe_intQ | exact pa_nilQ | (refine' pe_tupQ ?_; rotate_left 1) | (refine' pe_lstQ ?_; rotate_left 1) | (refine' pa_consQ ?_ ?_ se_conQ; rotate_left 2) | (refine' pa_consQ ?_ ?_ se_tup; rotate_left 2) | (refine' pa_consQ ?_ ?_ se_nameQ; rotate_left 2) | (refine' pa_consQ ?_ ?_ se_sub; rotate_left 2) | (refine' pa_consQ ?_ ?_ se_bin; rotate_left 2) | (refine' pa_consQ ?_ ?_ se_lst; rotate_left 2) | (refine' pa_consQ ?_ ?_ se_call; rotate_left 2) | (refine' pa_consQ ?_ ?_ se_lc; rotate_left 2)))
local macro_rules | `(tactic|room) => `(tactic| (intro vs H Q E h; repeat (first | (obtain ⟨e, _⟩ := h; subst e; rfl) | (obtain ⟨_, h⟩ := h))))
local macro_rules | `(tactic|x_go) => `(tactic| ((try dsimp only [cxOf, Cx.nox, Cx.wish]); (conv in (L2.start _ _) => simp only [L2.start, QN, List.map_nil, QT, List.length_nil, List.replicate_succ, List.replicate_zero, List.cons_append, List.nil_append, Nat.reduceAdd, Nat.reduceSub]); have big : 100000 < sizeLine := by decide))
local macro_rules | `(tactic|kt_k) => `(tactic| (with_reducible first | refine s_seq ?_ | refine s_if ?_ | refine s_next ?_ | refine i_or ?_ | refine s_nameQ ?_ | refine s_retQ ?_))
local macro_rules|`(tactic|lk)=>`(tactic|repeat walk_at "vc")
local macro_rules|`(tactic|fin2)=>`(tactic|exact⟨rfl,rfl,rfl,by decide +kernel,rfl,by decide +kernel,by decide +kernel⟩)
def sO:Sp:=λvs H Q _=>∃a li lg ins gvs gs,vs=[.ref a]/\NAt H a li lg ins gvs gs/\NetOk ins gs/\∀l H',ao H H'->H l=none->H' l=-.lst ((aq ins gs).map V.str)->Q (.ref l) H'
def sR:Sp:=λvs H Q _=>∃a li lg ins gvs gs,vs=[.ref a]/\NAt H a li lg ins gvs gs/\NetOk ins gs/\∀l H',ao H H'->H l=none->H' l=-.lst ((gs.map (·.1)).map V.str)->Q (.ref l) H'
variable {gvs vs ys us:List V} {a li lg f T b l p q g F a' li' lg' t L TL:Addr} {i n j m B lo hi:Nat} {Q:VK} {H H' H1 H2 H3 H4:Hp} {U:St} {K:PySem.W.Frag}
theorem vd {c:Int} {vals:List V} (hσ:U[i]?=- -.ref a) (ha:H a=-.tup [.ref li,.ref lg]) (hg:H lg=-.lst gvs) (hs:gvs.length<=1000)
  (hx:∀(j:Nat) x,gvs[j]?=-x->∃b ys v,x=.ref b/\H b=-.tup ys/\atI ys c=-v/\vals[j]?=-v) (hl:vals.length=gvs.length)
  (q:∀D H',H D=none->ao H H'->H' D=-.lst vals->Q (.ref D) H') :
  i7 (mP K (tOp (pV K) (bY i) (tC (V.int 1)))) (eU 0) gP (tOp (pV K) (bY 0) (tC (V.int c))) (cg [Str.ofString "gate"] []) U H Q:=by
 refine bS (s_list (aO (ai hσ (i_c (i_ixT ha rfl {lg,rfl,{_,SqL.of hg},λD hD=>?_})))));have big:1000<sizeLine:=by decide
 refine bU (xs:=gvs) (λn H' ys=>ao H H'/\H' D=-.lst ys/\ys=vals.take n) {ag hD,ae,by simp} (λn H' ys p=>{p.2.1,SqL.of (p.1 _ _ hg)}) (λn x H' ys e p=>?_) (λH' ys p=>?_)
 ·obtain⟨S,hd,rfl⟩:=p;obtain⟨b,zs,v,rfl,hb,hv,hv2⟩:=hx n x e;have hn:n<gvs.length:=(Qe.mp e).1;refine au {trivial,?_};refine i_yes (ce ?_);refine aO (ai rfl (i_c (i_ixT (S _ _ hb) hv (b9.mk hd hn (by rw[Qt];exact C3 hs hl big hn) {aQ S hD,ae,?_}))));rw[QX,hv2];rfl
 obtain⟨S,hd,rfl⟩:=p;exact q D H' hD S (by rw[hd,Qw ⇑(ye hl)])
theorem dL {α β:Type} {F:α->β->Prop}:∀{xs:List α} {ys:List β},Paired F xs ys->∀(j:Nat) x,xs[j]?=-x->∃y,ys[j]?=-y/\F x y
 | _,_,.nil=>λj x e=>by simp at e
 | _,_,.cons (a:=a) (b:=b) h t=>λj x e=>by
  cases j with
  | zero=>simp at e;subst e;exact⟨_,rfl,h⟩
  | succ j=>simp at e;obtain⟨y,e',f⟩:=dL t j x e;exact{y,~~~e',f}
variable {gs:J8} {ins ns ms xs zs ss:List Str}
theorem sn {Q:VK} (hσ:U[i]?=- -.ref a) (NA:NAt H a li lg ins gvs gs) (ok:NetOk ins gs)
  (q:∀D H',H D=none->ao H H'->H' D=-.lst ((gs.map (·.1)).map V.str)->Q (.ref D) H') :
  i7 (mP K (tOp (pV K) (bY i) (tC (V.int 1)))) (eU 0) gP (tOp (pV K) (bY 0) (tC (V.int 0))) (cg [Str.ofString "gate"] []) U H Q:=by
 have l:=aU NA.gates;have g7:=ok.g7;refine vd (vals:=(gs.map (·.1)).map V.str) hσ NA.ha NA.hg ⇑(C2 l g7) (λj x e=>?_) (by simp[l]) q;obtain⟨g,e',b,rv,rfl,hb,hr⟩:=dL NA.gates j x e;exact{b,_,_,rfl,hb,rfl,by simp[e']}
theorem mo (ok:NetOk ins gs):(ins.map V.str).length+((gs.map (·.1)).map V.str).length<=sizeLine:=by
 have g7:=ok.g7;have i4:=ok.i4;have big:1000<sizeLine:=by decide
 simp only[Qa];exact C1 g7 i4 big
theorem mn (ins:List Str) (gs:J8):ins.map V.str++(gs.map (·.1)).map V.str=(aq ins gs).map V.str:=by unfold aq;rw[Qp]
variable {P:Program} {w:World} {K:PySem.W.Frag} {mg:J6} {base:Heap} {TT:Addr}
section
theorem pT:FnScope ["net"] ["net"] (aC (top 8)):=by fin2
theorem wA {f:Addr} {fd:FuncData} (Fu:Fun K "gates_of" "gates_of" (top 8) f fd) (T:Txt K mg TT):FnOk P w K mg base CX0 1 f fd ["net"] sR:=by
 have S:=pT;w_up;obtain⟨a,li,lg,ins,gvs,gs,rfl,NA,ok,k⟩:=h;refine{_,(a7 (aJ (dB "gate" [] (bw (aD bd (pv 0) ad)) (λ_ _ _ _=>(aD (jF (K:=K) rfl) (pv 0) ad))))),?_};x_go;refine sn (Q:=Q) rfl NA ok λD H2 hD s2 h2=>?_;exact k D H2 s2 hD h2
theorem pJ:FnScope ["net"] ["net"] (aC (top 9)):=by fin2
theorem ww {f:Addr} {fd:FuncData} (Fu:Fun K "wires_of" "wires_of" (top 9) f fd) (T:Txt K mg TT) (f_gates_of:Fn P w K mg base "gates_of" ["net"] 1 sR):FnOk P w K mg base CX0 2 f fd ["net"] sO:=by
 have S:=pJ;w_up;obtain⟨a,li,lg,ins,gvs,gs,rfl,NA,ok,k⟩:=h;obtain⟨ha,hi,hg,gts⟩:=id NA;refine{_,(a7 (aJ (ap cu (dI dy (by rfl) T.n_list XB (aa (aD bd (pv 0) ad) af)) (a8 f_gates_of hr (aa (pv 0) af))))),?_};x_go;lk;intro l hl;have s1:=ag (o:=.lst (ins.map V.str)) hl;have NA1:=NA.same s1;lk;refine{a,li,lg,ins,gvs,gs,rfl,NA1,ok,λD H2 s2 hD h2=>?_};have hl2:H2 l=-.lst (ins.map V.str):=s2 _ _ ae;refine gL hl2 h2 (mo ok) λp hp=>?_;have hs:ao H (upd H2 p (HO.lst (ins.map V.str++(gs.map (·.1)).map V.str))):=s1.trans (s2.trans (ag hp));refine k p _ hs (ao.free (s1.trans s2) hp) ?_;rw[ae,mn]
end
def q_ (v:V):Sp:=λvs H Q _=>∃a li lg ins gvs gs z,vs=[.ref a,.str z]/\NAt H a li lg ins gvs gs/\NetOk ins gs/\StOk (aq ins gs).length z/\∀H',ao H H'->Q v H'
def stB (n:Nat) (z:Str):Bool:=decide (z.cps.size=n)&&z.cps.toList.all λc=>c==48 || c==49
variable {z y s x h:Str}
theorem nw:stB n z=true↔StOk n z:=by
 unfold stB;rw[Xj,XA,QM];exact{λh=>{h.1,λc hc=>by simpa using h.2 c hc},λh=>{h.len,λc hc=>by simpa using h.signs c hc} }
def zi:Sp:=λvs H Q _=>∃(z:Str) (m:Nat),vs=[.str z,.int (m:Int)]/\z.length<=1000/\∀H',ao H H'->Q (.bl (stB m z)) H'
def nA:Sp:=λvs H Q _=>∃a li lg ins gvs gs z,vs=[.ref a,.str z]/\NAt H a li lg ins gvs gs/\NetOk ins gs/\z.length<=1000/\∀H',ao H H'->Q (.bl (stB (aq ins gs).length z)) H'
theorem Bu (c:Nat):PyProof.Rows.KTD.inKeys ({#[c]}:Str) [(("0" : Str),PyProof.Rows.KTD.Dat.flat (PyData.str "1")),("1", .flat (.str "0"))]=(c==48 || c==49):=by
 by_cases h:c=48
 ·subst h;decide +kernel
 by_cases h2:c=49
 ·subst h2;decide +kernel
 rw[beq_false_of_ne h,beq_false_of_ne h2];have e:∀d:Nat,c≠d->decide (({#[c]}:Str)={#[d]})=false:=λd n=>QC λz=>n (by cases z;rfl);show (decide (({#[c]}:Str)={#[48]}) || (decide (({#[c]}:Str)={#[49]}) || false))=false;rw[e 48 h,e 49 h2];rfl
section
theorem uq:FnScope ["thing", "many"] ["thing", "many"] (aC (top 7)):=by fin2
variable {fd:FuncData} {f:Addr}
theorem Bi (Fu:Fun K "is_row" "is_row" (top 7) f fd) (T:Txt K mg TT):FnOk P w K mg base CX0 1 f fd ["thing", "many"] zi:=by
 have S:=uq;w_up;obtain⟨z,m,rfl,hz,k⟩:=h
 refine{_,(pss_cons (ps_if (PW.pt (fj (fe (eQ (aE cJ (by rfl) T.n_isinstance Xp (aa (pv 0) (aa (fF (v:=.ty "str") (by rfl) T.n_str PyProof.Rows.boot_str rfl) af))))) (eP (aL jb (aE dA (by rfl) T.n_len QL (aa (pv 0) af)) (pv 1) (aN _))))) (a7 (aJ cW)) pss_nil)
  (a7 (aJ (aE (gh rfl) (by rfl) T.n_all PyProof.Rows.boot_all (aa (dB "sign" [] (AR (pv 0)) (λ_ _ _ _=>(di (uA T.tab) (pv 0) (tf (v:=.ref TT) (by rfl) T.tURNED rfl) rfl))) af))))),?_}
 x_go;lk;refine{_,_,_,_,rfl,TyOf.str z,fq "str", ?_};refine{_,rfl,du ?_};have big:1000<sizeLine:=by decide
 lk;refine{_,rfl,⇑(C0 hz big),?_};lk;by_cases cz:z.length=m
 case neg =>
  refine ifT (by rw[QC λh=>cz (by injection h with h;omega)];rfl) ?_;lk
  have e:stB m z=false:=by
   unfold stB;rw[QC (show ¬z.cps.size=m from cz)];rfl
  have:=k H (ao.refl _);rwa [e]at this
 refine ifF (by rw[cz];simp) ?_;lk;refine bS ?_;lk;intro D hD;let I1:IvC:=λn H' ys=>ao H H'/\H' D=-.lst ys/\ys=((z.cps.toList.take n).map λc=>c==48 || c==49).map V.bl;refine xv I1 {ag hD,ae,rfl} (λn H' ys p=>p.2.1) (λn H' ys hn p=>?_) (λH' ys p=>?_)
 ·obtain⟨Sm,hd,rfl⟩:=p;refine au {trivial,i_yes (ce ?_)};refine aO (ai rfl (i_c {_,rfl,rfl,?_}));have zl:z.cps.size=z.length:=rfl;refine b9.mk hd hn (by rw[Qa,Qa,Qt];omega) {aQ Sm hD,ae,?_}
  have e:z.cps.toList[n]?=-z.cps.getD n 0:=by
   rw[QA,Q7 hn];simp[Array.getD,hn]
  rw[QX,e,XE,Qp,Qp];exact congrArg (λb=>((z.cps.toList.take n).map λc=>c==48 || c==49).map V.bl++[V.bl b]) (Bu _)
 obtain⟨Sm,hd,rfl⟩:=p;refine aB {_,_,rfl,SqL.of hd,?_}
 have e:(((z.cps.toList.take z.cps.size).map λc=>c==48 || c==49)).all id=stB m z:=by
  unfold stB;rw[QS (show z.cps.size=m from cz),Bool.true_and,List.all_map,Qw (by rw[Qs];exact Qh _)];rfl
 rw[e];exact k H' Sm
theorem ke:FnScope ["net", "thing"] ["net", "thing"] (aC (top 10)):=by fin2
theorem yt (Fu:Fun K "is_standing" "is_standing" (top 10) f fd) (T:Txt K mg TT) (f_is_row:Fn P w K mg base "is_row" ["thing", "many"] 1 zi):FnOk P w K mg base CX0 2 f fd ["net", "thing"] nA:=by
 have S:=ke;w_up;obtain⟨a,li,lg,ins,gvs,gs,z,rfl,NA,ok,st,k⟩:=h;obtain⟨ha,hi,hg,gts⟩:=id NA;refine{_,(a7 (aJ (a8 f_is_row hr (aa (pv 1) (aa (ap aR (aE aM (by rfl) T.n_len QL (aa (aD bd (pv 0) ad) af)) (aE aM (by rfl) T.n_len QL (aa (aD bd (pv 0) ad) af))) af))))),?_};x_go
 have hz:(aq ins gs).length=ins.length+gs.length:=by
  unfold aq;rw[Qk,Qa]
 have lg:=aU NA.gates;lk;refine{z,(aq ins gs).length,?_,st,λH' Sm=>k H' Sm};rw[Qa,lg,hz];rfl
theorem ik:FnScope ["net", "thing"] ["net", "thing"] (aC (top 11)):=by fin2
theorem wD (Fu:Fun K "check_standing" "check_standing" (top 11) f fd) (T:Txt K mg TT) (f_is_standing:Fn P w K mg base "is_standing" ["net", "thing"] 2 nA):FnOk P w K mg base CX0 3 f fd ["net", "thing"] (q_ .non):=by
 have S:=ik;w_up;obtain⟨a,li,lg,ins,gvs,gs,z,rfl,NA,ok,st,k⟩:=h;refine{_,(a7 (ps_if (fe (eQ (a8 f_is_standing hr (aa (pv 0) (aa (pv 1) af))))) uv pss_nil)),?_};x_go;lk;have w11:(aq ins gs).length<=11:=by unfold aq;rw[Qk,Qa];have:=ok.i4;have:=ok.g7;omega
 have zl:z.length=(aq ins gs).length:=st.len;refine{a,li,lg,ins,gvs,gs,z,rfl,NA,ok,⇑(CZ w11 zl),λH' Sm=>{_,rfl,?_} };rw[nw.mpr st];exact du (k H' Sm)
def gt (d:Nat):Sp:=λvs H Q _=>∃v a kvs r ns g,vs=[v,.ref a]/\RAt H v r/\r.dep<=d/\r.ok ns/\H a=-.dK kvs/\DFn kvs ns g/\Q (.bl (r.val g)) H
theorem hU {k:Nat} {ps:List Str} {sp:Sp} (h:∀vs H Q E,sp vs H Q E->False):FnOk P w K mg base CX0 k f fd ps sp :=
 {λvs H Q E q=>(h vs H Q E q).elim,λ_ _ _ _ _ _ vs Q E _ _ _ _ q=>(h _ _ _ _ q).elim}
theorem tR (r:Rl):1<=r.dep:=by cases r <;> simp[Rl.dep]
theorem re (b:Bool):decide (sg b=V.str "1")=b:=by
 cases b
 ·decide +kernel
 decide +kernel
theorem lP:FnScope ["rule", "signs", "kind"] ["rule", "signs"] (aC (top 12)):=by fin2
theorem ql {f:Addr} {fd:FuncData} (Fu:Fun K "rule_holds" "rule_holds" (top 12) f fd) (T:Txt K mg TT) (hm:mg "rule_holds" = -.ref f) (hk:PySem.W.keepIn K (.ref f)=true) (hb:gN K fd ["rule", "signs"] []):∀d,FnOk P w K mg base CX0 d f fd ["rule", "signs"] (gt d)
 | 0=>hU λvs H Q E ⟨v,a,kvs,r,ns,g,_,_,h,_⟩=>by have:=tR r;exact Cc h this
 | d+1=>by
  have S:=lP;have f_rule_holds:Fn P w K mg base "rule_holds" ["rule", "signs"] d (gt d):={f,fd,ql Fu T hm hk hb d,hm,hk,hb};refine Fu.ok S (λvs H Q E h=>?_) (λcdv A outer s H vs Q E hr h=>?_)
  ·obtain⟨v,a,kvs,r,ns,g,rfl,_⟩:=h;rfl
  obtain⟨v,a,kvs,r,ns,g,rfl,ra,hd,rok,ha,hf,q⟩:=h;have hu:=dC hr
  refine{_,(pss_cons (aF 2 S.nd (aD bd (pv 0) ad))
  (pss_cons (ps_if (aL cE (pv 2) aP (aN _)) (a7 (aJ (di cE (bC hu (pv 1) (aD bd (pv 0) ad)) aP (aN _)))) pss_nil)
  (pss_cons (ps_if (aL cE (pv 2) aP (aN _)) (a7 (aJ (rn (gF f_rule_holds (hr.mono (by first|decide|exact oq8)) (by rfl) (aa (aD bd (pv 0) ad) (aa (pv 1) af)))))) pss_nil)
  (pss_cons (ps_if (aL cE (pv 2) aP (aN _)) (a7 (aJ (f_ (gF f_rule_holds (hr.mono (by first|decide|exact oq8)) (by rfl) (aa (aD bd (pv 0) ad) (aa (pv 1) af))) (fZ (gF f_rule_holds (hr.mono (by first|decide|exact oq8)) (by rfl) (aa (aD bd (pv 0) ad) (aa (pv 1) af))))))) pss_nil)
  (a7 (aJ (zC (gF f_rule_holds (hr.mono (by first|decide|exact oq8)) (by rfl) (aa (aD bd (pv 0) ad) (aa (pv 1) af))) (fZ (gF f_rule_holds (hr.mono (by first|decide|exact oq8)) (by rfl) (aa (aD bd (pv 0) ad) (aa (pv 1) af))))))))))),?_}
  x_go
  cases ra with
  | @w b n hb =>
   lk;refine ifT (by decide +kernel) ?_;lk;have hv:bi kvs (Sum.inr n:Key)=-sg (g n):=hf n rok;refine{a,sg (g n),rfl,by rw[<-hv];exact cO.k (k:=Sum.inr n) ha,?_};lk;refine i_eq (by cases g n <;> rfl) ?_;rw[re];exact q
  | @no b u r hb hr1 =>
   lk;refine ifF (by decide +kernel) ?_;lk;refine ifT (by decide +kernel) ?_;lk;exact{u,a,kvs,r,ns,g,rfl,hr1,by simp only[Rl.dep]at hd;exact Cb hd,rok,ha,hf,⟨_,rfl,q⟩}
  | @an b u x r1 r2 hb hr1 hr2 =>
   lk;refine ifF (by decide +kernel) ?_;lk;refine ifF (by decide +kernel) ?_;lk;refine ifT (by decide +kernel) ?_;lk;simp only[Rl.dep]at hd;refine{u,a,kvs,r1,ns,g,rfl,hr1,⇑(yg hd),rok.1,ha,hf,{_,rfl,?_} };have e:Rl.val g (Rl.an r1 r2)=(r1.val g&&r2.val g):=rfl;rw[e]at q
   cases hv:r1.val g with
   | false=>rw[hv]at q;exact du q
   | true =>
   rw[hv]at q;refine ce ?_;lk;exact{x,a,kvs,r2,ns,g,rfl,hr2,⇑(yf hd),rok.2,ha,hf,q}
  | @orr b u x r1 r2 hb hr1 hr2 =>
  lk;refine ifF (by decide +kernel) ?_;lk;refine ifF (by decide +kernel) ?_;lk;refine ifF (by decide +kernel) ?_;lk;simp only[Rl.dep]at hd;refine{u,a,kvs,r1,ns,g,rfl,hr1,⇑(yg hd),rok.1,ha,hf,{_,rfl,?_} };have e:Rl.val g (Rl.orr r1 r2)=(r1.val g || r2.val g):=rfl;rw[e]at q
  cases hv:r1.val g with
  | true=>rw[hv]at q;exact ce q
  | false =>
  rw[hv]at q;refine du ?_;lk;exact{x,a,kvs,r2,ns,g,rfl,hr2,⇑(yf hd),rok.2,ha,hf,q}
def sN (d:Nat):Sp:=λvs H Q _=>∃v a kvs r ns g,vs=[v,.ref a]/\RAt H v r/\r.dep<=d/\r.ok ns/\H a=-.dK kvs/\DFn kvs ns g/\Q (sg (r.val g)) H
theorem lO:FnScope ["rule", "signs"] ["rule", "signs"] (aC (top 13)):=by fin2
theorem wv (Fu:Fun K "rule_worth" "rule_worth" (top 13) f fd) (T:Txt K mg TT) (f_rule_holds:Fn P w K mg base "rule_holds" ["rule", "signs"] 10 (gt 10)):FnOk P w K mg base CX0 11 f fd ["rule", "signs"] (sN 10):=by
 have S:=lO;w_up;obtain⟨v,a,kvs,r,ns,g,rfl,ra,hd,rok,ha,hf,q⟩:=h;refine{_,(a7 (aJ (v7 (eQ (a8 f_rule_holds hr (aa (pv 0) (aa (pv 1) af)))) aP aP))),?_};x_go;lk;refine{v,a,kvs,r,ns,g,rfl,ra,hd,rok,ha,hf,{_,rfl,?_} }
 cases hv:r.val g with
 | true=>rw[hv]at q;exact ce q
 | false=>rw[hv]at q;exact du q
end
theorem fN {k:Key}:∀{qs kvs:List (Key × V)},k∉qs.map (·.1)->bi (bB kvs qs) k=bi kvs k
 | [],kvs,_=>rfl
 | q::qs,kvs,h=>by
  simp only[QN,QP,not_or]at h;show bi (bB (ca kvs q.1 q.2) qs) k=_;rw[fN h.2,pd,QE h.1]
theorem fU {k:Key} {v:V}:∀{qs kvs:List (Key × V)},(qs.map (·.1)).Nodup->(k,v)∈qs->bi (bB kvs qs) k=-v
 | [],kvs,_,h=>nomatch h
 | q::qs,kvs,nd,h=>by
  rw[QN,Q6]at nd;show bi (bB (ca kvs q.1 q.2) qs) k=_;rcases QP.mp h with e|h
  ·subst e;rw[fN nd.1,pd,QF rfl]
  exact fU nd.2 h
theorem oZ (ns:List Str) (z:Str):(c8 ns z).map (·.1)=ns.map Sum.inr:=by
 unfold c8;rw[QR];have e:((λx:Key × V=>x.1)∘λp:Str × Nat=>((Sum.inr p.1:Key),fQ z p.2))=(λp:Str × Nat=>(Sum.inr p.1:Key)):=rfl;rw[e];have e2:(λp:Str × Nat=>(Sum.inr p.1:Key))=(Sum.inr:Str->Key)∘Prod.fst:=rfl;rw[e2,<-QR,List.zipIdx_map_fst]
theorem uP (h:ns.Nodup):(ns.map (Sum.inr:Str->Key)).Nodup:=by
 induction ns with
 | nil=>exact List.nodup_nil
 | cons a r ih =>
 rw[Q6]at h;rw[QN,Q6];refine{λm=>?_,ih h.2};obtain⟨x,hx,e⟩:=Qj.mp m;cases e;exact h.1 hx
theorem jx (st:StOk n z) (hi:i<n):fQ z i=sg (z.cps.getD i 0==49):=by
 have hl:=st.len;have e:z.cps.getD i 0=z.cps[i]'(⇑(CY hi hl)):=by simp[Array.getD,hl,hi]
 have:z.cps.getD i 0=48\/z.cps.getD i 0=49:=by
  rw[e];exact st.signs _ (by simp)
 unfold fQ;rcases this with e|e
 ·rw[e];decide +kernel
 rw[e];decide +kernel
theorem tQ (nd:ns.Nodup) (st:StOk ns.length z):DFn (bB [] (c8 ns z)) ns (sgn ns z):=λn hn=>by
 have hi:ns.idxOf n<ns.length:=List.idxOf_lt_length_of_mem hn;have e:ns[ns.idxOf n]?=-n:=by rw[Qc hi];exact congrArg some (List.getElem_idxOf hi)
 have hm:((Sum.inr n:Key),fQ z (ns.idxOf n))∈c8 ns z:=by
  unfold c8;refine Qj.mpr {(n,ns.idxOf n),?_,rfl};rw[List.mem_zipIdx_iff_getElem?];exact e
 rw[fU (by rw[oZ];exact uP nd) hm,jx st hi];rfl
def mD:Sp:=λvs H Q _=>∃a li lg ins gvs gs z,vs=[.ref a,.str z]/\NAt H a li lg ins gvs gs/\NetOk ins gs/\StOk (aq ins gs).length z /\
 ∀d H' kvs,ao H H'->H' d=-.dK kvs->DFn kvs (aq ins gs) (sgn (aq ins gs) z)->Q (.ref d) H'
section
theorem pK:FnScope ["net", "standing"] ["net", "standing"] (aC (top 14)):=by fin2
theorem rC {f:Addr} {fd:FuncData} (Fu:Fun K "signs_in" "signs_in" (top 14) f fd) (T:Txt K mg TT) (f_wires_of:Fn P w K mg base "wires_of" ["net"] 2 sO):FnOk P w K mg base CX0 3 f fd ["net", "standing"] mD:=by
 have S:=pK;w_up;obtain⟨a,li,lg,ins,gvs,gs,z,rfl,NA,ok,st,k⟩:=h;refine{_,(a7 (aJ (tj rfl (by rfl) T.n_dict (by rfl) T.n_zip (aa (a8 f_wires_of hr (aa (pv 0) af)) (aa (pv 1) af))))),?_};x_go
 have wl:(aq ins gs).length<1000:=by
  have i4:=ok.i4;have g7:=ok.g7;unfold aq;rw[Qk,Qa];exact CW i4 g7
 lk;show bp _ _ _ _ _;lk;refine{a,li,lg,ins,gvs,gs,rfl,NA,ok,λl H1 S1 hl h1=>?_};lk;refine{l,aq ins gs,z,rfl,SqL.of h1,by rw[st.len];exact oq8,wl,λd hd=>?_};exact k d _ _ (S1.trans (ag hd)) ae (tQ ok.nd st)
end
def d_ (z:Str) (i:Nat):Str:=if (z.cps.getD i 0==49)=true then "0" else "1"
def fP (z:Str) (i:Nat):Str:=(Txt.slice z none (-(i:Int))++d_ z i)++Txt.slice z (-((i:Int)+1)) none
def pB:Sp:=λvs H Q _=>∃(z:Str) (n i:Nat),vs=[.str z,.int (i:Int)]/\StOk n z/\i<n/\n<=11/\Q (.str (fP z i)) H
section
theorem oN {n:Nat} {z:Str} (st:StOk n z) {i:Nat} (hi:i<n):atI z.cps.toList ((i:Nat):Int)=-z.cps.getD i 0:=by
 have hl:=st.len;refine ck ?_;simp[Array.getD,hl,hi]
theorem nE:FnScope ["standing", "place"] ["standing", "place"] (aC (top 15)):=by fin2
theorem uF {f:Addr} {fd:FuncData} (Fu:Fun K "turned_at" "turned_at" (top 15) f fd) (T:Txt K mg TT):FnOk P w K mg base CX0 1 f fd ["standing", "place"] pB:=by
 have S:=nE;w_up;obtain⟨z,n,i,rfl,st,hi,hn,k⟩:=h;refine{_,(a7 (aJ (ap bO (ap bO (a9 fc (pv 0) bu (bt (pv 1))) (aD (yG T.tab) (tf (v:=.ref TT) (by rfl) T.tURNED rfl) (aD fh (pv 0) (pv 1)))) (a9 fc (pv 0) (bt (ap aR (pv 1) ad)) bu)))),?_};x_go;have hz:z.length=n:=st.len;have big:1000<sizeLine:=by decide
 lk;have s1:=XR z none (-(i:Int));have s2:=XR z (-((i:Int)+1)) none
 have fl:(d_ z i).length=1:=by
  unfold d_
  split
  ·decide +kernel
  decide +kernel
 refine jf ⋯ ?_;refine aO (i_c ?_);refine aO (ai rfl (ai rfl (gK ⋯ (oN st hi) ?_)));have e:=jx st hi;unfold fQ at e;rw[e]
 have step:∀(b:Bool) (G:VK),G (.str (if b=true then "0" else "1")) H->sW TT (.ref TT) (sg b) H G:=λb G g=>by
  cases b
  ·exact{rfl,.inl ⟨rfl,g⟩}
  exact{rfl,.inr ⟨rfl,g⟩}
 refine step _ _ ?_;show ∃i_1 j,V.str _=V.str i_1/\V.str (d_ z i)=V.str j/\_;have l1:(Txt.slice z none (-(i:Int))++d_ z i).length=(Txt.slice z none (-(i:Int))).length+(d_ z i).length:=Xv;refine{_,_,rfl,rfl,⋯,?_};lk;refine jf ⋯ ?_;exact{_,_,rfl,rfl,by rw[l1];omega,k}
end
theorem kU {xs:Array Nat}:∀(j a:Nat),a+j<=xs.size->((List.range j).map λk=>a+k).filterMap (xs[·]?)=(xs.toList.drop a).take j
 | 0,a,_=>by simp
 | j+1,a,h=>by
  rw[List.range_succ,Qp,List.filterMap_append,kU j a ⋯,QX];have e:(xs.toList.drop a)[j]?=xs[a+j]?:=by rw[XT];simp
  rw[e];have q:xs[a+j]?=-(xs[a+j]'⋯):=by rw[Q7]
  simp[q]
theorem jY {a b:Nat} {lo hi:Option Int} (hl:PySem.Builtin.Str.strSliceIndices lo hi 1 z.length=(List.range (b-a)).map λk=>a+k) (hb:b<=z.cps.size) (hab:a<=b):(Txt.slice z lo hi).cps.toList=(z.cps.toList.drop a).take (b-a):=by
 unfold Txt.slice;rw[hl]
 split
 ·rename_i h
  have h:b-a=z.length:=by simpa using h
  have h':z.length=z.cps.size:=rfl;have a0:a=0:=by omega
  subst a0;rw[List.drop_zero,Qw (by rw[Qs];omega)]
 exact kU (b-a) a ⋯
theorem jX {z:Str} {j:Nat} (h:j<=z.cps.size):(Txt.slice z none (-(j:Int))).cps.toList=z.cps.toList.take j:=by
 have h':z.length=z.cps.size:=rfl;refine(jY (a:=0) (b:=j) ?_ h (QB _)).trans (by simp);unfold PySem.Builtin.Str.strSliceIndices sliceRange
 have e:max 0 (min (if (j:Int)<0 then (j:Int)+z.length else (j:Int)) (z.length:Int))=(j:Int):=by
  rw[QE (Int.not_lt.mpr (Int.natCast_nonneg _)),Int.min_eq_left (show _<=(z.length:Int) from Int.ofNat_le.mpr h),Int.max_eq_right (Int.natCast_nonneg _)]
 simp only[show (1:Int)>0 from by decide,if_true,e]
 have c:(if (0:Int)<(j:Int) then ((j:Int)-0+1-1) / 1 else 0).toNat=j-0:=by
  rw[Int.ediv_one,Int.add_sub_cancel,Int.sub_zero,Nat.sub_zero]
  split
  ·rfl
  omega
 rw[c];refine List.map_congr_left λk _=>?_;omega
theorem jZ {z:Str} {a:Nat} (h:a<=z.cps.size):(Txt.slice z (-(a:Int)) none).cps.toList=z.cps.toList.drop a:=by
 have h':z.length=z.cps.size:=rfl;refine(jY (a:=a) (b:=z.cps.size) ?_ (Qh _) h).trans (by rw[Qw (by rw[Q5,Qs];omega)]);unfold PySem.Builtin.Str.strSliceIndices sliceRange
 have e:max 0 (min (if (a:Int)<0 then (a:Int)+z.length else (a:Int)) (z.length:Int))=(a:Int):=by
  rw[QE (Int.not_lt.mpr (Int.natCast_nonneg _)),Int.min_eq_left (show _<=(z.length:Int) from Int.ofNat_le.mpr h),Int.max_eq_right (Int.natCast_nonneg _)]
 simp only[show (1:Int)>0 from by decide,if_true,e]
 have c:(if (a:Int)<(z.length:Int) then ((z.length:Int)-(a:Int)+1-1) / 1 else 0).toNat=z.cps.size-a:=by
  rw[Int.ediv_one,Int.add_sub_cancel,h']
  split
  ·rw[<-Int.ofNat_sub h];rfl
  omega
 rw[c];refine List.map_congr_left λk _=>?_;omega
theorem sF (st:StOk n z) (hi:i<n):StOk n (fP z i):=by
 have hl:=st.len;have a:=jX (z:=z) (j:=i) ⋯;have b:=jZ (z:=z) (a:=i+1) ⋯;rw[show ((i+1:Nat):Int)=(i:Int)+1 from ⋯]at b
 have f:(d_ z i).cps.toList=[48]\/(d_ z i).cps.toList=[49]:=by
  unfold d_
  split
  ·exact .inl (by decide +kernel)
  exact .inr (by decide +kernel)
 have e:(fP z i).cps.toList=(z.cps.toList.take i++(d_ z i).cps.toList)++z.cps.toList.drop (i+1):=by
  unfold fP;show ((_++_)++_:Array Nat).toList=_;rw[QQ,QQ,a,b]
 refine{?_,λc hc=>?_}
 ·rw[<-Qs,e,Qk,Qk,Qt,Q5,Qs];have:(d_ z i).cps.toList.length=1:=by rcases f with f|f <;> rw[f] <;> rfl
  omega
 rw[e]at hc;rcases Qq.mp hc with h|h
 ·rcases Qq.mp h with h|h
  ·exact st.signs c (List.mem_of_mem_take h)
  rcases f with f|f
  ·rw[f]at h;exact .inl (~~~h)
  rw[f]at h;exact .inr (~~~h)
 exact st.signs c (List.mem_of_mem_drop h)
theorem turn_list (st:StOk n z) (hi:i<n):(fP z i).cps.toList=z.cps.toList.take i++(if (z.cps.getD i 0==49)=true then 48 else 49)::z.cps.toList.drop (i+1):=by
 have hl:=st.len;have a:=jX (z:=z) (j:=i) ⋯;have b:=jZ (z:=z) (a:=i+1) ⋯;rw[show ((i+1:Nat):Int)=(i:Int)+1 from ⋯]at b
 have f:(d_ z i).cps.toList=[if (z.cps.getD i 0==49)=true then 48 else 49]:=by
  unfold d_
  split
  ·decide +kernel
  decide +kernel
 unfold fP;show ((_++_)++_:Array Nat).toList=_;rw[QQ,QQ,a,b,f];simp
def cC (f:Str->Bool) (z:Str) (p:(Str × Rl) × Nat):Option (Str × Str):=if (p.1.2.val f==(z.cps.getD p.2 0==49))=true then none else -(p.1.1,fP z p.2)
def az (ins:List Str) (gs:J8) (z:Str):List (Str × Str):=(gs.zipIdx ins.length).filterMap (cC (sgn (aq ins gs) z) z)
def oX (H:Hp) (v:V) (p:Str × Str):Prop:=∃b,v=.ref b/\H b=-.tup [.str p.1,.str p.2]
variable {v:V}
theorem oX.mono (hs:dH H H') {p:Str × Str} (h:oX H v p):oX H' v p:=let ⟨b,e,q⟩:=h;{b,e,hs _ _ q}
theorem cI {H H':Hp} (hs:dH H H'):∀{vs:List V} {ps:List (Str × Str)},Paired (oX H) vs ps->Paired (oX H') vs ps
 | _,_,.nil=>.nil
 | _,_,.cons h t=>.cons (h.mono hs) (cI hs t)
theorem dj {α β:Type} {F:α->β->Prop}:∀{xs:List α} {ys:List β} {x:α} {y:β},Paired F xs ys->F x y->Paired F (xs++[x]) (ys++[y])
 | _,_,_,_,.nil,h=>.cons h .nil
 | _,_,_,_,.cons a t,h=>.cons a (dj t h)
def eY:Sp:=λvs H Q _=>∃a li lg ins gvs gs z,vs=[.ref a,.str z]/\NAt H a li lg ins gvs gs/\NetOk ins gs/\StOk (aq ins gs).length z /\
 ∀l vs' H',ao H H'->H l=none->H' l=-.lst vs'->Paired (oX H') vs' (az ins gs z)->Q (.ref l) H'
theorem BX (a b:Bool):decide (sg a=sg b)=(a==b):=by
 cases a <;> cases b <;> decide +kernel
section
theorem lN:FnScope ["net", "standing", "signs", "steps", "place", "gate"] ["net", "standing"] (aC (top 16)):=by fin2
theorem wy {f:Addr} {fd:FuncData} (Fu:Fun K "steps_from" "steps_from" (top 16) f fd) (T:Txt K mg TT) (f_signs_in:Fn P w K mg base "signs_in" ["net", "standing"] 3 mD) (f_rule_worth:Fn P w K mg base "rule_worth" ["rule", "signs"] 11 (sN 10)) (f_turned_at:Fn P w K mg base "turned_at" ["standing", "place"] 1 pB) :
  FnOk P w K mg base CX0 12 f fd ["net", "standing"] eY:=by
 have S:=lN;w_up;obtain⟨a,li,lg,ins,gvs,gs,z,rfl,NA,ok,st,k⟩:=h
 refine{_,(pss_cons (aF 2 S.nd (a8 f_signs_in hr (aa (pv 0) (aa (pv 1) af))))
  (pss_cons (aF 3 S.nd (aZ af))
  (pss_cons (ps_for PassesOwn.never rfl (v4 (by rfl) T.n_enumerate (aa (aD bd (pv 0) ad) af) (xZ (aE aM (by rfl) T.n_len QL (aa (aD bd (pv 0) ad) af)) AQ)) (gY rfl (bE (bR 4 S.nd) (bE (bR 5 S.nd) ee)))
  (a7 (ps_if (aL jb (a8 f_rule_worth hr (aa (aD bd (pv 5) ad) (aa (pv 2) af))) (aD fh (pv 1) (pv 4)) (aN _)) (a7 (bJ (cR QH QI QJ be (pv 3) (aa (br (aa (aD bd (pv 5) ad) (aa (a8 f_turned_at hr (aa (pv 1) (aa (pv 4) af))) af))) af)))) pss_nil)))
  (a7 (aJ (pv 3)))))),?_}
 x_go;have i4:=ok.i4;have g7:=ok.g7;have lgn:=aU NA.gates;have wl:(aq ins gs).length=ins.length+gs.length:=by unfold aq;rw[Qk,Qa]
 have big:1000<sizeLine:=by decide
 lk;refine{a,li,lg,ins,gvs,gs,z,rfl,NA,ok,st,λd H1 kvs S1 hd df=>?_};lk;refine{by simp[sizeLine],λl hl=>?_};generalize hE:upd _ l _=H2;have S2:ao H1 H2:=by rw[<-hE];exact ag hl
 have q2:H2 l=-.lst []:=by rw[<-hE];exact ae
 clear hE;have S12:=S1.trans S2;have hlH:H l=none:=ao.free S1 hl;have NA2:=NA.same S12;have hd2:=S2 _ _ hd;have dl:d≠l:=aG hd hl;obtain⟨ha,hi,hg,gts⟩:=id NA2;lk;show bp _ _ _ _ _;lk;refine{lg,_,rfl,rfl,by rw[Qa];omega,{_,SqL.of hg},?_};have nlg:lg≠l:=aG NA.hg hlH;let I2:IvF:=λi U H'=>(∃x4 x5 vs',U=[-.ref a,-.str z,-.ref d,-.ref l,x4,x5]/\H' l=-.lst vs'/\vs'.length<=i/\Paired (oX H') vs' (((gs.zipIdx ins.length).take i).filterMap (cC (sgn (aq ins gs) z) z)))/\ao H H'/\H' d=-.dK kvs
 refine u7 (xs:=gvs) I2
  { {_,_,[],rfl,q2,by simp,by simp;exact .nil},S12,hd2} (λi U H' _ pv=>SqL.of (pv.2.1 _ _ NA.hg)) (λi x U H' t hx pv ht=>?_) (λU H' pv=>?_)
 ·obtain⟨⟨x4,x5,vs',rfl,hl',hlen,hp⟩,SS,hd'⟩:=pv;have hig:i<gvs.length:=(Qe.mp hx).1;obtain⟨g,hgi,b,rv,rfl,hb,hrv⟩:=dL NA.gates i x hx;have S3:=ag (o:=.tup [.int (((ins.map V.str).length:Int)+(i:Nat)),.ref b]) ht;refine{t,_,rfl,SqT.of ae,rfl,?_};refine{_,_,rfl,au {_,_,rfl,au ?_} };have hl3:=S3 _ _ hl';have hd3:=S3 _ _ hd';have SS3:=SS.trans S3;have hp3:=cI (ao.tups S3) hp;generalize upd H' t (.tup [.int (((ins.map V.str).length:Int)+(i:Nat)),.ref b])=H3 at *;have hb3:=SS3 _ _ hb;have hr3:=hrv.mono (ao.tups SS3);have gm:g∈gs:=Qg hgi;have ep:(((ins.map V.str).length:Int)+(i:Nat))=((ins.length+i:Nat):Int):=by rw[Qa];omega
  rw[ep];obtain⟨rok,rdep⟩:=ok.rules g gm;have hpl:ins.length+i<(aq ins gs).length:=by omega
  have hzi:(gs.zipIdx ins.length)[i]?=-(g,ins.length+i):=by rw[List.getElem?_zipIdx,hgi];rfl
  refine{rfl,?_};lk;refine{rv,d,kvs,g.2,_,_,rfl,hr3,rdep,rok,hd3,df,?_};generalize hv:g.2.val (sgn (aq ins gs) z)=bv;have e:=jx st hpl;unfold fQ at e;have zl:z.length=(aq ins gs).length:=st.len;lk;refine gK ⋯ (oN st hpl) ?_;rw[e];refine i_ne (by cases bv <;> cases (z.cps.getD (ins.length+i) 0==49) <;> rfl) ?_;rw[BX];refine{_,rfl,?_}
  have tk:((gs.zipIdx ins.length).take (i+1)).filterMap (cC (sgn (aq ins gs) z) z)=((gs.zipIdx ins.length).take i).filterMap (cC (sgn (aq ins gs) z) z)++(cC (sgn (aq ins gs) z) z (g,ins.length+i)).toList:=by
   rw[QX,hzi,List.filterMap_append];cases h:cC (sgn (aq ins gs) z) z (g,ins.length+i) <;> simp[h]
  have so:cC (sgn (aq ins gs) z) z (g,ins.length+i)=if (bv==(z.cps.getD (ins.length+i) 0==49))=true then none else -(g.1,fP z (ins.length+i)):=by
   unfold cC;rw[hv]
  cases hc:(bv==(z.cps.getD (ins.length+i) 0==49)) with
  | true =>
   refine du ?_;rw[hc]at so;refine{ {_,_,vs',rfl,hl3,⇑(A1 hlen),?_},SS3,hd3};rw[tk,so];simpa using hp3
  | false =>
  refine ce ?_;rw[hc]at so;lk;refine{z,_,ins.length+i,rfl,st,hpl,⋯,?_};lk;refine{by simp[sizeLine],λq hq=>?_};generalize hE:upd _ q _=H4;have S4:ao H3 H4:=by rw[<-hE];exact ag hq
  have q4:H4 q=-.tup [.str g.1,.str (fP z (ins.length+i))]:=by rw[<-hE];exact ae
  clear hE;have hl4:=S4 _ _ hl3;have hd4:=S4 _ _ hd3;have nql:q≠l:=λe=>by rw[e,hl3]at hq;cases hq
  lk;refine d9 hl4 ⋯ ?_
  have kt:dH H4 (upd H4 l (.lst (vs'++[.ref q]))):=λb xs e=>by
   have:b≠l:=λx=>by rw[x,hl4]at e;cases e
   rw[am this];exact e
  refine{ {_,_,vs'++[.ref q],rfl,ae,by simp;exact C9 hlen,?_},aQ (SS3.trans S4) hlH,by rw[am dl];exact hd4};rw[tk,so];exact dj (cI kt (cI (ao.tups S4) hp3)) {q,rfl,kt _ _ q4}
 obtain⟨⟨x4,x5,vs',rfl,hl',hlen,hp⟩,SS,hd'⟩:=pv;refine bH (te:=bY 3) (D:={ nx:=λx H'=>Q V.non H',rt:=Q }) (ai rfl ?_);refine k l vs' H' SS hlH hl' ?_;have e:(gs.zipIdx ins.length).length=gvs.length:=by rw[List.length_zipIdx,lgn]
 rw[<-e,List.take_length]at hp;exact hp
end
def bA (H:Hp) (a:Addr) (sts:List (V × Key)):Prop:=∃vs,H a=-.lst vs/\Paired (λv (s:V × Key)=>∃b,v=.ref b/\H b=-.tup [s.1,kV s.2]) vs sts
theorem bA.same {sts:List (V × Key)} (S:ao H H') (h:bA H a sts):bA H' a sts:=by
 obtain⟨vs,h1,h2⟩:=h;exact{vs,S _ _ h1,bZ (λv s ⟨b,e,q⟩=>{b,e,S _ _ q}) h2}
def mj (F W N:Addr) (H H':Hp):Prop:=∀b o,H b=-o->b≠F->b≠W->b≠N->H' b=-o
def fdK (xs:List Key) (as:J7):List (Key × V):=(xs.zip as).map λp=>(p.1,V.ref p.2)
def knK (xs:List Key):List (Key × V):=xs.map λx=>(x,V.bl true)
theorem oD {xs:List Key} {as:J7} (h:as.length<=xs.length):(fdK xs as).length=as.length:=by
 unfold fdK;rw[Qa,List.length_zip];exact Dh h
theorem iz (xs:List Key) (as:J7):(fdK xs as).map (·.1)=xs.take as.length:=by
 unfold fdK;rw[QR];show (xs.zip as).map (λp=>p.1)=_
 induction xs generalizing as with
 | nil=>simp
 | cons x xs ih =>
 cases as with
 | nil=>simp
 | cons a as=>simp[ih]
variable {as ls ts:J7}
theorem xg {xs:List Key} {x:Key} (h:xs[as.length]?=-x):fdK xs (as++[a])=fdK xs as++[(x,V.ref a)]:=by
 unfold fdK
 induction xs generalizing as with
 | nil=>simp at h
 | cons y xs ih =>
 cases as with
 | nil=>simp at h;subst h;simp
 | cons b as=>simp at h;simp[ih h]
theorem xi {xs ys:List Key} (h:as.length<=xs.length) (p:xs <+: ys):fdK ys as=fdK xs as:=by
 obtain⟨t,rfl⟩:=p;unfold fdK
 induction xs generalizing as with
 | nil =>
  have:as=[]:=by simpa using h
  subst this;simp
 | cons y xs ih =>
 cases as with
 | nil=>simp
 | cons b as=>simp at h;simpa using ih h
variable {kvs:List (Key × V)}
theorem cU {k:Key}:bi kvs k=none↔k∉kvs.map (·.1):=by
 refine{vo,λh=>?_}
 cases e:bi kvs k with
 | none=>rfl
 | some v=>exact absurd (xM e) h
theorem jD {xs:List Key} {k:Key}:bi (knK xs) k=none↔k∉xs:=by
 rw[cU];unfold knK;rw[QR];show k∉xs.map (λx=>x)↔_;rw[List.map_id']
def nxK (steps:Key->List (V × Key)) (x:Key):List Key:=(steps x).map (·.2)
def nB (P:Program) (w:World) (K:PySem.W.Frag) (mg:J6) (base:Heap) (k:Nat):Sp:=λvs H Q _=>∃(start:Key) (f:Addr) (l:Lm) (cl:List (Str × Addr)) (c:Addr) (r:V->Hp->VK->Prop) (steps:Key->List (V × Key)) (B:Nat),
 vs=[kV start,.ref f]/\H f=-i5 f l cl c/\Calls P w K mg base k f r/\B<=100000 /\
 (∀x H1 (Q1:VK),Bf.Reach (nxK steps) start x->ao H H1->(∀a H2,ao H1 H2->bA H2 a (steps x)->Q1 (.ref a) H2)->r (kV x) H1 Q1) /\
 (∀xs:List Key,xs.Nodup->(∀x∈xs,Bf.Reach (nxK steps) start x)->xs.length<=B) /\
 ∀(F:Addr) (as:J7) (n:Nat) (H':Hp),ao H H'->H F=none->(Bf.bfs (nxK steps) start n).length=n->as.length=n->H' F=some (.dK (fdK (Bf.bfs (nxK steps) start n) as)) ->
  (∀(i:Nat) x a,(Bf.bfs (nxK steps) start n)[i]?=-x->as[i]?=-a->bA H' a (steps x))->Q (.ref F) H'
variable {te td ty tv tl:TE}
theorem yL {P:Program} {w:World} {mg:J6} {base:Heap} {k:Nat} {c:Addr} {l:Lm} {cl:List (Str × Addr)} {r:V->Hp->VK->Prop} (hi:U[i]?=- -.ref f) (C:Calls P w K mg base k f r) (hf:H f=-i5 f l cl c)
  (q:te U H λv H1=>H1 f=-i5 f l cl c/\r v H1 Q):vC P w K mg base k i te U H Q:=⟨f,l,cl,c,r,hi,C,hf,q⟩
local macro_rules|`(tactic|ctx_has $a $b $c $d $e $f $g)=>`(tactic|(generalize hE:upd $a $b _=$c;obtain⟨$d,$e⟩:=$f $g hE;clear hE))
section
theorem lX:FnScope ["start", "steps_of", "found", "waiting", "known", "at", "here", "steps", "step"] ["start", "steps_of"] (aC (top 18)):=by fin2
theorem wB {kl:Nat} {f:Addr} {fd:FuncData} (Fu:Fun K "found_from" "found_from" (top 18) f fd) (T:Txt K mg TT):FnOk P w K mg base CX0 (kl+1) f fd ["start", "steps_of"] (nB P w K mg base kl):=by
 have S:=lX;w_up;obtain⟨start,fl,l,cl,c,r,steps,B,rfl,hfl,hC,hB,hst,hfew,k⟩:=h;have hu:=dC hr;refine'{?_,?bb,?_}
 case bb =>
  walk_at "b";exact aF 2 S.nd im;exact aF 3 S.nd (aZ (aa (pv 0) af aj));exact aF 4 S.nd (yb (v0 (pv 0) cW xY) rfl rfl (by simp) (by decide));exact aF 5 S.nd ad;refine' fX PassesOwn.never ?_ ?_;rotate_left 2;exact(aL jc (pv 5) (aE aM (by rfl) T.n_len QL (aa (pv 3) af aj)) (aN _));walk_at "p";exact aF 6 S.nd (aD aH (pv 3) (pv 5));exact aF 7 S.nd (v8 (k:=kl) (i:=1) (hr.mono ⇑oq8) zD (pv 1) (pv 6));exact(gx hu (pv 2) (pv 6) (pv 7) rfl);walk_at "f";exact(bw (pv 7));exact(bR 8 S.nd);walk_at "p";exact(gX (dJ hu (aD bd (pv 8) ad) (pv 4)));exact(gx hu (pv 4) (aD bd (pv 8) ad) cW rfl);exact(bJ (cR QH QI QJ be (pv 3) (aa (aD bd (pv 8) ad) af)));exact(vX (i:=5) S.nd rfl (by z_go) ad wY);exact(aJ (pv 2))
 x_go;refine s_seq (bj ?_);intro F hF;refine au ?_;ctx_has H F H1 S1 q1 aI hF;lk;refine{by simp[sizeLine],λW hW=>?_};ctx_has H1 W H2 S2 q2 aI hW;lk;refine λN hN=>?_;refine{_,rfl,?_};refine{ae,[(start,.bl true)],rfl,by simp,?_};rw[xN];refine au ?_;ctx_has H2 N H3 S3 q3 aI hN;lk;have S03:ao H H3:=S1.trans (S2.trans S3);have FW:F≠W:=aG q1 hW;have FN:F≠N:=aG (S2 _ _ q1) hN;have WN:W≠N:=aG q2 hN
 have W0:H W=none:=by
  cases e:H W with
  | none=>rfl
  | some o=>rw[S1 _ _ e]at hW;cases hW
 have N0:H N=none:=by
  cases e:H N with
  | none=>rfl
  | some o=>rw[(S1.trans S2) _ _ e]at hN;cases hN
 have off:∀{Ha Hb:Hp},ao H Ha->mj F W N Ha Hb->ao H Hb:=λsa o b u e=>o b u (sa b u e) (aG e hF) (aG e W0) (aG e N0);let nx:=nxK steps;let bf:=Bf.bfs nx start;have reach:∀n x,x∈bf n->Bf.Reach nx start x:=λn x h=>Bf.cY n x h;have fewB:∀n,(bf n).length<=B:=λn=>hfew _ (Bf.cB n) (reach n);let I3:IvF:=λm U H'=>∃(n:Nat) (as:J7) (x6 x7 x8:Option V),U=[-kV start,-.ref fl,-.ref F,-.ref W,-.ref N,-.int (n:Int),x6,x7,x8]/\m=B+1-n/\n<=(bf n).length/\ao H H'/\H' F=-.dK (fdK (bf n) as)/\as.length=n/\H' W=-.lst ((bf n).map kV)/\H' N=-.dK (knK (bf n))/\∀(i:Nat) x a,(bf n)[i]?=-x->as[i]?=-a->bA H' a (steps x)
 refine{I3,
  {_,0,[],none,none,none,rfl,rfl,QB _,S03,S3 _ _ (S2 _ _ q1),rfl,S3 _ _ q2,q3,λi x a _ e=>nomatch e},?_}
 rintro m U H' ⟨n,as,x6,x7,x8,rfl,rfl,hn,SH,hF',las,hW',hN',hsts⟩;lk;rw[Qa];by_cases cn:n<(bf n).length
 case neg =>
  refine ifF (QC ⋯) ?_;lk;have e:(bf n).length=n:=by exact Dg hn las cn
  exact k F as n H' SH hF e las hF' hsts
 refine ifT (QS ⋯) ?_;let I4:IvJ:=λσ' H''=>∃(as:J7) (x6 x7 x8:Option V),σ'=[-kV start,-.ref fl,-.ref F,-.ref W,-.ref N,-.int ((n+1:Nat):Int),x6,x7,x8]/\n+1<=(bf (n+1)).length/\ao H H''/\H'' F=-.dK (fdK (bf (n+1)) as)/\as.length=n+1/\H'' W=-.lst ((bf (n+1)).map kV)/\H'' N=-.dK (knK (bf (n+1)))/\∀(i:Nat) x a,(bf (n+1))[i]?=-x->as[i]?=-a->bA H'' a (steps x);refine{I4,λσ' H'' h=>?_,?_}
 ·obtain⟨as,x6,x7,x8,e1,e2,e3,e4,e5,e6,e7,e8⟩:=h;exact{B+1-(n+1),by have:=fewB n;omega,n+1,as,x6,x7,x8,e1,rfl,e2,e3,e4,e5,e6,e7,e8}
 obtain⟨x,hx⟩:∃x,(bf n)[n]?=some x:={_,Qc cn};have hbs:bf (n+1)=Bf.bo (bf n) (nx x):=Bf.fB hx;lk;refine bh (v:=kV x) (SqL.of hW') (ck (by rw[Qi,hx];rfl)) ?_;lk;refine yL rfl hC (SH _ _ hfl) (ai rfl {SH _ _ hfl,hst x H' _ (reach n x (Qg hx)) SH λa H4 S4 st4=>?_});lk;refine iJ (ai rfl (ai rfl (ai rfl ?_)));refine{F,_,rfl,iC.k (k:=x) (S4 _ _ hF') (by rw[oD ⇑(De las cn)];have:=fewB n;omega),?_}
 have pn:ca (fdK (bf n) as) x (V.ref a)=fdK (bf n) (as++[a]):=by
  rw[xg (by rw[las];exact hx)];refine dY _ (cU.mpr ?_);rw[iz,las];intro hm;obtain⟨i,hi,e⟩:=Qo.mp hm;rw[Qt]at hi;rw[List.getElem_take]at e;have e2:=(Qe.mp hx).2;have:=(List.getElem_inj (Bf.cB (nx:=nx) (s:=start) n)).mp (e.trans e2.symm);exact Dd las cn hi this
 rw[pn]
 obtain⟨vs,ha,pr⟩:=id st4
 have neW:∀{Hx:Hp} {ws:List Key},Hx W=-.lst (ws.map kV)->ws≠[]->∀{b:Addr} {sts:List (V × Key)},bA Hx b sts->b≠W:=λ{Hx ws} hw ne {b sts} ⟨us,hb,pu⟩ z=>by
  rw[z,hw]at hb;cases hb
  cases ws with
  | nil=>exact ne rfl
  | cons y ws =>
  cases pu with
  | cons h _ =>
  obtain⟨c,e,_⟩:=h;cases y <;> cases e
 have neD:∀{Hx:Hp} {D:Addr} {kvs:List (Key × V)},Hx D=-.dK kvs->∀{b:Addr} {sts:List (V × Key)},bA Hx b sts->b≠D:=λ{Hx D kvs} hd {b sts} ⟨us,hb,_⟩ z=>by
  rw[z,hd]at hb;cases hb
 have keepS:∀{Ha Hb:Hp} {ws:List Key} {k1 k2:List (Key × V)},Ha W=-.lst (ws.map kV)->ws≠[]->Ha F=-.dK k1->Ha N=-.dK k2->mj F W N Ha Hb->∀{b:Addr} {sts:List (V × Key)},bA Ha b sts->bA Hb b sts:=λ{Ha Hb ws k1 k2} hw ne h1 h2 o {b sts} st=>by
  have n1:=neW hw ne st;have n2:=neD h1 st;have n3:=neD h2 st;obtain⟨us,hb,pu⟩:=st;refine{us,o b _ hb n2 n1 n3,bZ (λv s ⟨c,e,q⟩=>{c,e,o c _ q (λz=>?_) (λz=>?_) λz=>?_}) pu}
  ·rw[z,h1]at q;cases q
  ·rw[z,hw]at q;cases q
  rw[z,h2]at q;cases q
 have bne:bf n≠[]:=λz=>by rw[z]at cn;simp at cn
 have hF4:=S4 _ _ hF';have hW4:=S4 _ _ hW';have hN4:=S4 _ _ hN';have off4:mj F W N H4 (upd H4 F (.dK (fdK (bf n) (as++[a])))):=λb o e h1 _ _=>by rw[am h1];exact e
 have hF5:upd H4 F (.dK (fdK (bf n) (as++[a]))) F=-.dK (fdK (bf n) (as++[a])):=ae;have hW5:upd H4 F (.dK (fdK (bf n) (as++[a]))) W=-.lst ((bf n).map kV):=by rw[am FW.symm];exact hW4
 have hN5:upd H4 F (.dK (fdK (bf n) (as++[a]))) N=-.dK (knK (bf n)):=by rw[am FN.symm];exact hN4
 have st5:=keepS hW4 bne hF4 hN4 off4 st4
 have sts5:∀(i:Nat) y b,(bf n)[i]?=-y->(as++[a])[i]?=-b->bA (upd H4 F (.dK (fdK (bf n) (as++[a])))) b (steps y):=λi y b e1 e2=>by
  by_cases ci:i<as.length
  ·rw[QO ci]at e2;exact keepS hW4 bne hF4 hN4 off4 ((hsts i y b e1 e2).same S4)
  rw[QK ⇑(zO ci)]at e2
  have:i=n:=by
   have:=(Qe.mp e2).1;simp at this;exact Dc las ci this
  subst this;rw[hx]at e1;cases e1;rw[las,Nat.sub_self]at e2;cases e2;exact st5
 have SH5:ao H (upd H4 F (.dK (fdK (bf n) (as++[a])))):=off (SH.trans S4) off4;generalize upd H4 F (.dK (fdK (bf n) (as++[a])))=H5 at *;obtain⟨vs5,ha5,pr5⟩:=id st5;refine s_seq (s_for (s_list (ai rfl {a,rfl,{_,SqL.of ha5},?_})));let I5:IvF:=λi σ' H'=>∃x8,σ'=[-kV start,-.ref fl,-.ref F,-.ref W,-.ref N,-.int (n:Int),-kV x,-.ref a,x8]/\mj F W N H5 H'/\H' F=-.dK (fdK (bf n) (as++[a]))/\H' W=-.lst ((Bf.bo (bf n) ((nx x).take i)).map kV)/\H' N=-.dK (knK (Bf.bo (bf n) ((nx x).take i)));refine dw (xs:=vs5) I5 {_,rfl,λb o e _ _ _=>e,hF5,hW5,hN5} (λi σ' H' _ pv=>?_) (λi v σ' H' hv pv=>?_) (λσ' H' pv=>?_)
 ·obtain⟨_,_,o,_⟩:=pv;exact SqL.of (o a _ ha5 (neD hF5 st5) (neW hW5 bne st5) (neD hN5 st5))
 ·obtain⟨x8,rfl,o,e1,e2,e3⟩:=pv;obtain⟨⟨nm,y⟩,hy,b,rfl,hb⟩:=paired_get pr5 hv;have hb':H' b=-.tup [nm,kV y]:=o b _ hb (λz=>by rw[z,hF5]at hb;cases hb) (λz=>by rw[z,hW5]at hb;cases hb) (λz=>by rw[z,hN5]at hb;cases hb)
  have hny:(nx x)[i]?=-y:=by
   show ((steps x).map (·.2))[i]?=_;rw[Qi,hy];rfl
  have ext:Bf.bo (bf n) ((nx x).take (i+1))=Bf.bo (Bf.bo (bf n) ((nx x).take i)) [y]:=by
   rw[QX,hny,Bf.mh];rfl
  have lenN:(Bf.bo (bf n) ((nx x).take i)).length<=B:=hfew _ (Bf.eC _ _ (Bf.cB n)) λz hz=>by
   rcases(Bf.eV _ _ _).mp hz with h|h
   ·exact reach n z h
   exact .step (reach n x (Qg hx)) (List.mem_of_mem_take h)
  lk;refine eT (aO (ai rfl (i_c (i_ixT hb' rfl (ai rfl ?_)))));refine{N,_,rfl,cO.k (k:=y) e3,_,rfl,?_};by_cases cy:y∈Bf.bo (bf n) ((nx x).take i)
  ·rw[Bf.lH cy]at ext;refine ifF ?_ ?_
   ·cases e:bi (knK (Bf.bo (bf n) ((nx x).take i))) y with
    | none=>exact absurd cy (jD.mp e)
    | some v=>rfl
   lk;refine{_,rfl,o,e1,?_,?_}
   ·rw[ext];exact e2
   rw[ext];exact e3
  rw[Bf.lG cy]at ext;have nn:=jD.mpr cy;refine ifT (by rw[nn];rfl) ?_;lk;refine iJ (i_c (ai rfl (aO (ai rfl (i_c (i_ixT hb' rfl ?_))))));refine{N,_,rfl,iC.k (k:=y) e3 (by unfold knK;rw[Qa];exact zN hB (by decide) lenN),?_};have e2':upd H' N (.dK (ca (knK (Bf.bo (bf n) ((nx x).take i))) y (.bl true))) W=-.lst ((Bf.bo (bf n) ((nx x).take i)).map kV):=by rw[am WN];exact e2
  have hb'':upd H' N (.dK (ca (knK (Bf.bo (bf n) ((nx x).take i))) y (.bl true))) b=-.tup [nm,kV y]:=by rw[am (λz=>by rw[z,e3]at hb';cases hb')];exact hb'
  refine s_drop (i_bm (ai rfl {i_tyL e2',?_}));refine ak (aO (ai rfl (i_c (i_ixT hb'' rfl (aB (d9 e2' (by rw[Qa];exact zN hB (by decide) lenN) ?_))))));refine{_,rfl,λc u e h1 h2 h3=>by rw[am h2,am h3];exact o c u e h1 h2 h3,by rw[am FW,am FN];exact e1,?_,?_}
  ·rw[ae,ext,Qp];rfl
  rw[am WN.symm,ae,dY _ nn,ext];unfold knK;rw[Qp];rfl
 obtain⟨x8,rfl,o,e1,e2,e3⟩:=pv
 have lv:vs5.length=(nx x).length:=by
  show _=((steps x).map (·.2)).length;rw[Qa];exact aU pr5
 rw[lv,Qw (Qh _),<-hbs]at e2 e3;refine{_,rfl,?_};refine i_c {_,_,rfl,rfl,?_};have pre:bf n <+: bf (n+1):=Bf.lC n
 have l1:n+1<=(bf (n+1)).length:=by
  have:=pre.length_le;exact Db las cn this
 refine{as++[a],_,_,_,by rw[show ((n+1:Nat):Int)=(n:Int)+1 from rfl];rfl,l1,off SH5 o,?_,by rw[Qk,las];rfl,e2,e3,λi y b h1 h2=>?_}
 ·rw[xi (by rw[Qk,las];simp;exact Da las cn) pre];exact e1
 have hi:i<n+1:=by
  have:=(Qe.mp h2).1;rw[Qk,las]at this;simpa using this
 exact keepS hW5 bne hF5 hN5 o (sts5 i y b (Bf.km pre ⇑(C_ las cn hi) h1) h2)
end
noncomputable def fH:Lm:=match cL (top 19) with
 | .Return (some (.Call _ [_,.Lambda p b sc pos] _ _)) _::_=>{("steps_found" ++ ".<locals>.") ++ "<lambda>", p,b,sc,pos}
 | _=>{"", { posonlyargs:=[],args:=[],vararg:=none,kwonlyargs:=[],kw_defaults:=[],kwarg:=none,defaults:=[] },.Constant .none 0 {0,0,0,0},aC (top 0),{0,0,0,0} }
theorem Dv {ns:List (Str × NameKind)} (h:ns.all (λp=>!(p.2==NameKind.free) || p.1==y)=true) (e:ns.lookup z=-.free):z=y:=by
 have:=QM.mp h _ (eS e);simpa using this
theorem wQ:LmScope "here" "net" fH.scope:={rfl,rfl,rfl,rfl,rfl,by decide,by decide +kernel,λz h=>Dv (by decide +kernel) h}
structure Tk (T:Addr) (H H':Hp):Prop where
 old:∀b o,H b=-o->b≠T->H' b=-o
 tab:gC T fH H'
theorem Ay {l:Lm} (t:gC T l H):∃ps,H T=-.tbl ps:=by rcases t with e|⟨c,e,_⟩ <;> exact⟨_,e⟩
variable {o u:HO}
theorem pi {l:Lm} (t:gC T l H) (h:H b=-o) (n:∀ps,o≠.tbl ps):b≠T:=λz=>by
 obtain⟨ps,e⟩:=Ay t;rw[z,e]at h;exact n ps (Q2 h).symm
theorem dU {l:Lm} (t:gC T l H) (S:ao H H'):gC T l H':=by
 rcases t with e|⟨c,e,q⟩
 ·exact .inl (S _ _ e)
 exact .inr {c,S _ _ e,S _ _ q}
theorem Tk.lst (t:gC T fH H) (k:Tk T H H'):∀b xs,H b=-.lst xs->H' b=-.lst xs:=λb xs e=>k.old b _ e (pi t e λ_ z=>nomatch z)
theorem Tk.tup (t:gC T fH H) (k:Tk T H H'):∀b xs,H b=-.tup xs->H' b=-.tup xs:=λb xs e=>k.old b _ e (pi t e λ_ z=>nomatch z)
theorem Tk.of (t:gC T fH H) (S:ao H H'):Tk T H H':={λb o e _=>S b o e,dU t S}
theorem Tk.trans (a:Tk T H H1) (b:Tk T H1 H2):Tk T H H2:={λc o e n=>b.old c o (a.old c o e n) n,b.tab}
theorem NAt.mono (hl:∀b xs,H b=-.lst xs->H' b=-.lst xs) (ht:dH H H') (h:NAt H a li lg ins vs gs):NAt H' a li lg ins vs gs:={ht _ _ h.ha,hl _ _ h.hi,hl _ _ h.hg,bD ht h.gates}
def cX (ps:List (Str × Str)):List (V × Key):=ps.map λp=>(V.str p.1,Sum.inr p.2)
def stN (ins:List Str) (gs:J8):Key->List (V × Key)
 | .inr z=>cX (az ins gs z)
 | .inl _=>[]
theorem i9 {ps:List (Str × Str)} (hl:H l=-.lst vs) (p:Paired (oX H) vs ps):bA H l (cX ps):=by
 refine{vs,hl,?_};unfold cX;clear hl
 induction p with
 | nil=>exact .nil
 | cons h _ ih=>exact .cons h ih
theorem pA {p:Str × Str} (h:p∈az ins gs z):∃i,ins.length<=i/\i<ins.length+gs.length/\p.2=fP z i/\(∃g,gs[i-ins.length]?=-g/\p.1=g.1):=by
 unfold az at h;obtain⟨q,hq,e⟩:=List.mem_filterMap.mp h;obtain⟨j,hj,ej⟩:=Qo.mp hq;have e2:=Qc hj;rw[ej,List.getElem?_zipIdx]at e2;unfold cC at e
 split at e
 ·cases e
 cases e;rw[List.length_zipIdx]at hj;rw[Qc hj]at e2;cases e2;exact{ins.length+j,⇑Dn,⇑(Di hj),rfl,gs[j],by rw[XD];exact Qc hj,rfl}
theorem bK (ins:List Str) (gs:J8):(aq ins gs).length=ins.length+gs.length:=by unfold aq;rw[Qk,Qa]
theorem fW (st:StOk (aq ins gs).length z) {x:Key} (r:Bf.Reach (nxK (stN ins gs)) (Sum.inr z) x):∃y:Str,x=Sum.inr y/\StOk (aq ins gs).length y:=by
 induction r with
 | start=>exact⟨z,rfl,st⟩
 | @step a b _ hb ih =>
 obtain⟨y,rfl,sy⟩:=ih;unfold nxK stN cX at hb;rw[QR]at hb;obtain⟨p,hp,rfl⟩:=Qj.mp hb;obtain⟨i,h1,h2,e,_⟩:=pA hp;refine{p.2,rfl,?_};rw[e];exact sF sy (by rw[bK];exact h2)
def oW:Nat->List (List Nat)
 | 0=>[[]]
 | n+1=>(oW n).flatMap λl=>[48::l,49::l]
theorem lF:∀n,(oW n).length=2 ^ n
 | 0=>rfl
 | n+1=>by
  unfold oW;rw[List.length_flatMap];show ((oW n).map λ_=>2).sum=_;rw[List.map_const',List.sum_replicate_nat,lF n,Nat.pow_succ]
theorem lE:∀n (l:List Nat),l.length=n->(∀c∈l,c=48\/c=49)->l∈oW n
 | 0,l,h,_=>by rw[Xm h];simp[oW]
 | n+1,[],h,_=>by simp at h
 | n+1,c::l,h,hc=>by
  unfold oW;rw[List.mem_flatMap];refine{l,lE n l (~~~h) (λd hd=>hc d (Qx _ hd)),?_};rcases hc c (by simp) with e|e <;> subst e <;> simp
theorem gd {xs:List Key} (n11:n<=11) (nd:xs.Nodup) (h:∀x∈xs,∃y:Str,x=Sum.inr y/\StOk n y):xs.length<=2048:=by
 have:=Bf.pigeon xs ((oW n).map λl=>(Sum.inr ⟨l.toArray⟩:Key)) nd λx hx=>by
  obtain⟨y,rfl,st⟩:=h x hx;exact Qj.mpr {y.cps.toList,lE n _ (by rw[Qs];exact st.len) st.signs,by cases y;simp}
 rw[Qa,lF]at this;have h2:2 ^ n<=2 ^ 11:=Nat.pow_le_pow_right (by decide) n11;have h3:(2:Nat) ^ 11=2048:=by decide
 omega
def iG (TL:Addr):Sp:=λvs H Q _=>∃a li lg ins gvs gs z,vs=[.ref a,.str z]/\NAt H a li lg ins gvs gs/\NetOk ins gs/\StOk (aq ins gs).length z/\gC TL fH H /\
 ∀(F:Addr) (as:J7) (n:Nat) (H':Hp),Tk TL H H'->H F=none->(Bf.bfs (nxK (stN ins gs)) (Sum.inr z) n).length=n->as.length=n->H' F=some (.dK (fdK (Bf.bfs (nxK (stN ins gs)) (Sum.inr z) n) as)) ->
  (∀(i:Nat) x b,(Bf.bfs (nxK (stN ins gs)) (Sum.inr z) n)[i]?=-x->as[i]?=-b->bA H' b (stN ins gs x))->Q (.ref F) H'
section
theorem xC {f c cell:Addr} (f_steps_from:Fn P w K mg base "steps_from" ["net", "standing"] 12 eY):Calls P w K mg base 13 f (zq f fH "net" cell c (i8 eY [] E0 (bp (bY 1) (bp (bY 0) eL)))) :=
 sr (k:=12) wQ (λpm ctv u=>rfl) λA outer s H hr=>gF f_steps_from hr (by rfl) (aa (pv 1) (aa (pv 0) af))
theorem kb:FnScope ["net", "standing"] ["net", "standing"] (aC (top 19)):=by fin2
theorem rB {TL cc:Addr} {f:Addr} {fd:FuncData} (Fu:FunC K "steps_found" "steps_found" (top 19) f fd cc) (T:Txt K mg TT) (CT:PySem.W.CodeHd base cc TL) (BM:gO base mg) (f_found_from:Fn P w K mg base "found_from" ["start", "steps_of"] 14 (nB P w K mg base 13)) (f_steps_from:Fn P w K mg base "steps_from" ["net", "standing"] 12 eY) :
  FnOk P w K mg base CX0 15 f fd ["net", "standing"] (iG TL):=by
 have S:=kb;refine Fu.ok S (λvs H Q E h=>?_) (λA outer s H vs Q E hr h=>?_)
 ·obtain⟨a,li,lg,ins,gvs,gs,z,rfl,_⟩:=h;rfl
 obtain⟨a,li,lg,ins,gvs,gs,z,rfl,NA,ok,st,tb,k⟩:=h;have hu:=dC hr;have HCL:PySem.closureFor fH.scope (PyProof.Rows.envOfC "steps_found" (aC (top 19)) s.heap.objs.size f (.ref cc))=pure [(("net" : Str),(s.heap.objs.size+1:Addr))]:=by rfl
 refine'{?_,?bb,?_}
 case bb =>
  refine' a7 ?_;rotate_left 1;walk_at "p";exact(aJ (AV (i:=0) f_found_from (hr.mono (by first|decide|omega)) (by rfl) (aa (pv 1) (aa (AU (T:=TL) (cl:=[(("net" : Str),(s.heap.objs.size+1:Addr))]) rfl CT BM HCL) af) aj) rfl rfl (Or.inr (Or.inl rfl)) rfl rfl))
 x_go;generalize hcell:s.heap.objs.size+1=cell;kt_k;show bp (bY 1) (bp (BO TL fH [("net", cell)]) eL) _ _ _;refine ak (ai rfl (ak {tb,λfl c H2 md=>aB {_,rfl,λo uy hd ru hc=>?_} }));have md:Made TL fH [("net", cell)] H fl c H2:=md;obtain rfl:uy=Value.ref a:=ru;have NA2:NAt H2 a li lg ins gvs gs:=NA.mono (λb xs e=>md.old b _ e (pi tb e λ_ z=>nomatch z)) (λb xs e=>md.old b _ e (pi tb e λ_ z=>nomatch z));have S2c:ao H2 (upd H2 cell (cT o)):=ag hc;have hf2:upd H2 cell (cT o) fl=-i5 fl fH [("net", cell)] c:=S2c _ _ md.fn;have hcc2:upd H2 cell (cT o) c=-jm c fH.qual:=S2c _ _ md.code;have hcl2:upd H2 cell (cT o) cell=-cT o:=ae;have NA2c:=NA2.same S2c;have k12:∀b u,H b=-u->b≠TL->upd H2 cell (cT o) b=-u:=λb u e n=>S2c _ _ (md.old b u e n);have tb2:gC TL fH (upd H2 cell (cT o)):=.inr {c,S2c _ _ md.tab,hcc2};have nocell:∀{b u},H2 b=-u->b≠cell:=λe z=>by rw[z,hc]at e;cases e
 have H2R:∀{b u},H b=-u->b≠TL->b≠cell:=λ{b u} e n=>nocell (md.old b u e n);have Tcell:TL≠cell:=nocell md.tab;generalize upd H2 cell (cT o)=H2c at *;have w11:(aq ins gs).length<=11:=by rw[bK];have:=ok.i4;have:=ok.g7;omega
 refine{Sum.inr z,fl,fH,[("net", cell)],c,_,stN ins gs,2048,rfl,hf2,xC (c:=c) (cell:=cell) f_steps_from,by decide,λx H4 Q1 rx S4 q4=>?_,λxs nd h=>gd w11 nd λx hx=>fW st (h x hx),λF as n H3 S3 hF ln3 las hF3 sts=>?_}
 ·obtain⟨y,rfl,sy⟩:=fW st rx;have NA4:=NA2c.same S4;have hcl4:=S4 _ _ hcl2;refine{o,Value.ref a,.ref a,S4 _ _ hf2,S4 _ _ hcc2,hcl4,hd,rfl,?_};have dl:∀b xs,H4 b=-.lst xs->ed H4 cell b=-.lst xs:=λb xs e=>by rw[bQ (λz=>by rw[z,hcl4]at e;cases e)];exact e
  have dt:∀b xs,H4 b=-.tup xs->ed H4 cell b=-.tup xs:=λb xs e=>by rw[bQ (λz=>by rw[z,hcl4]at e;cases e)];exact e
  refine bP (ak (ai rfl (ak (ai rfl (aB ?_)))));refine{a,li,lg,ins,gvs,gs,y,rfl,NA4.mono dl dt,ok,sy,λl vs' H5 S5 hl0 hl5 pr5 hn5=>?_};have kc:dH H5 (upd H5 cell (cT o)):=λb xs e=>by rw[am (λz=>by rw[z,hn5]at e;cases e)];exact e
  refine q4 l _ (λb u e=>?_) (i9 (by rw[am (λz=>by rw[z,hn5]at hl5;cases hl5)];exact hl5) (cI kc pr5));by_cases cb:b=cell
  ·subst cb;rw[ae,<-hcl4];exact e
  rw[am cb];exact S5 _ _ (by rw[bQ cb];exact e)
 show Q (V.ref F) (ed H3 cell);have hcl3:=S3 _ _ hcl2;have d3:∀{b u},H3 b=-u->b≠cell->ed H3 cell b=-u:=λe n=>by rw[bQ n];exact e
 have Fcell:F≠cell:=λz=>by rw[z,hcl2]at hF;cases hF
 have tb3:gC TL fH (ed H3 cell):=by
  rcases tb2 with e|⟨c',e,q⟩
  ·exact .inl (d3 (S3 _ _ e) Tcell)
  have c'cell:c'≠cell:=λz=>by rw[z,hcl2]at q;cases q
  exact .inr {c',d3 (S3 _ _ e) Tcell,d3 (S3 _ _ q) c'cell}
 have F0:H F=none:=by
  cases e:H F with
  | none=>rfl
  | some u =>
  by_cases c:F=TL
  ·obtain⟨ps,e2⟩:=Ay tb2;rw[c,e2]at hF;cases hF
  rw[k12 _ _ e c]at hF;cases hF
 refine k F as n _ {λb u e nT=>d3 (S3 _ _ (k12 b u e nT)) (H2R e nT),tb3} F0 ln3 las (d3 hF3 Fcell) λi x b e1 e2=>?_;obtain⟨vs,h1,h2⟩:=sts i x b e1 e2;exact{vs,d3 h1 (λz=>by rw[z,hcl3]at h1;cases h1),bZ (λv st ⟨b,e,q⟩=>{b,e,d3 q (λz=>by rw[z,hcl3]at q;cases q)}) h2}
end
theorem oA {nm:Str}:∀{ns:List Str},inV (.str nm) (ns.map V.str)=true↔nm∈ns
 | []=>by simp[inV]
 | x::ns=>by
  have ih:=oA (nm:=nm) (ns:=ns);unfold inV at ih ⊢;rw[QN,List.any_cons,Bool.or_eq_true,ih,QP]
  have:eqV (.str x) (.str nm)=true↔nm=x:=by
   show decide (x=nm)=true↔_;rw[XA];exact{λh=>h.symm,λh=>h.symm}
  rw[this]
theorem mR (ns:List Str):(ns.map V.str).all dD=true:=by
 rw[QM];intro x hx;obtain⟨y,_,rfl⟩:=Qj.mp hx;rfl
section
variable (ins:List Str) (gs:J8)
end
theorem eO (ins:List Str) (gs:J8) (y:Str):(az ins gs y).length<=gs.length:=by
 unfold az;have:=List.length_filterMap_le (cC (sgn (aq ins gs) y) y) (gs.zipIdx ins.length);rwa [List.length_zipIdx]at this
def FAt (H:Hp) (F:Addr) (ins:List Str) (gs:J8) (R:Str->Prop):Prop:=∀y,R y->∃b,cO H F (kV (Sum.inr y)) (-.ref b)/\bA H b (cX (az ins gs y))
theorem gT {ps:List (Str × Str)} (pv:Paired (λv (s:V × Key)=>∃b,v=.ref b/\H b=-.tup [s.1,kV s.2]) vs (cX ps)) (e:vs[i]?=-v):∃p b,ps[i]?=-p/\v=.ref b/\H b=-.tup [.str p.1,.str p.2]:=by
 obtain⟨st,e1,b,e2,h⟩:=paired_get pv e;unfold cX at e1;rw[Qi]at e1
 cases e3:ps[i]? with
 | none=>rw[e3]at e1;cases e1
 | some p=>rw[e3]at e1;cases e1;exact⟨p,b,rfl,e2,h⟩
section
end
section
variable (st:Str->List (Str × Str))
def evs (xs:List Str):List (Str × (Str × Str)):=xs.flatMap λh=>(st h).map λp=>(p.2,(p.1,h))
def iB (es:List (Str × (Str × Str))) (x:Str):Option (Str × Str):=(es.find? λe=>e.1==x).map (·.2)
inductive Path (xs:List Str) (s:Str):Str->List Str->Prop
 | nil:Path xs s s []
 | snoc {x h nm:Str} {ns:List Str}:x≠s->iB (evs st xs) x=-(nm,h)->Path xs s h ns->Path xs s x (ns++[nm])
end
variable {st:Str->List (Str × Str)}
theorem Path.det (a:Path st xs s x ns):Path st xs s x ms->ns=ms:=by
 induction a generalizing ms with
 | nil=>intro b;cases b with
  | nil=>rfl
  | snoc h _ _=>exact absurd rfl h
 | snoc h c _ ih=>intro b;cases b with
  | nil=>exact absurd rfl h
  | snoc h' c' p' =>
   rw[c]at c';cases c';rw[ih p']
theorem Path.start {xs:List Str} (a:Path st xs s s ns):ns=[]:=a.det .nil
structure CAt (H:Hp) (C:Addr) (kvs:List (Key × V)) (es:List (Str × (Str × Str))):Prop where
 hC:H C=-.dK kvs
 some:∀x r,iB es x=-r->∃t,bi kvs (Sum.inr x)=-.ref t/\H t=-.tup [.str r.1,.str r.2]
 none:∀x,iB es x=none->bi kvs (Sum.inr x)=none
 len:kvs.length<=es.length
def aA (xs:List Str):List Key:=xs.map Sum.inr
theorem kW {k:Key} (h:(fdK (aA xs) as)[j]?=-(k,v)):∃x b,xs[j]?=-x/\as[j]?=-b/\k=Sum.inr x/\v=.ref b:=by
 unfold fdK aA at h;rw[Qi]at h
 cases q:((xs.map Sum.inr:List Key).zip as)[j]? with
 | none=>rw[q]at h;cases h
 | some p =>
 obtain⟨p1,p2⟩:=p;rw[q]at h;cases h;obtain⟨h1,h2⟩:=List.getElem?_zip_eq_some.mp q;rw[Qi]at h1
 cases e:xs[j]? with
 | none=>rw[e]at h1;cases h1
 | some x=>rw[e]at h1;cases h1;exact⟨x,p2,rfl,h2,rfl,rfl⟩
theorem eX (nd:(kvs.map (·.1)).Nodup):∀{i:Nat} {k:Key} {v:V},kvs[i]?=-(k,v)->bi kvs k=-v:=by
 induction kvs with
 | nil=>intro i k v e;simp at e
 | cons p r ih =>
 intro i k v e;rw[QN,Q6]at nd
 cases i with
 | zero =>
  simp at e;subst e;exact bV (p:=(k,v)) rfl
 | succ i =>
 simp at e;rw[bX (λz:p.1=k=>nd.1 (by rw[z];exact Qj.mpr {(k,v),Qg e,rfl}))];exact ih nd.2 e
theorem gZ (nd:xs.Nodup):((fdK (aA xs) as).map (·.1)).Nodup:=by
 rw[iz];refine(List.take_sublist _ _).nodup ?_;unfold aA;exact List.Pairwise.map _ (λa b h z=>h (Sum.inr.inj z)) nd
section
end
theorem qC:∀{ks:List Key},(∀k∈ks,∃y:Str,k=Sum.inr y)->∃xs:List Str,ks=aA xs
 | [],_=>{[],rfl}
 | k::ks,h=>by
  obtain⟨y,rfl⟩:=h k (by simp);obtain⟨xs,rfl⟩:=qC λk hk=>h k (Qx _ hk);exact{y::xs,rfl}
theorem eJ {k:Key}:(aA xs)[i]?=some k↔∃x,xs[i]?=-x/\k=Sum.inr x:=by
 unfold aA;rw[Qi]
 cases xs[i]? with
 | none=>simp
 | some x=>simp[eq_comm]
theorem iR:∀{xs ys:List Str},aA xs=aA ys->xs=ys
 | [],[],_=>rfl
 | [],y::ys,h=>by cases h
 | x::xs,[],h=>by cases h
 | x::xs,y::ys,h=>by
  unfold aA at h;rw[QN,QN]at h;injection h with h1 h2;rw[Sum.inr.inj h1,iR (xs:=xs) (ys:=ys) h2]
structure Met (ins:List Str) (gs:J8) (z:Str) (xs:List Str):Prop where
 bfs:aA xs=Bf.bfs (nxK (stN ins gs)) (Sum.inr z) xs.length
 st:∀x∈xs,StOk (aq ins gs).length x
theorem wG {k:Key}:k∈nxK (stN ins gs) (Sum.inr h)↔∃p∈az ins gs h,k=Sum.inr p.2:=by
 unfold nxK stN cX;rw[QR]
 constructor
 ·intro q;obtain⟨p,hp,e⟩:=Qj.mp q;exact⟨p,hp,e.symm⟩
 rintro⟨p,hp,rfl⟩;exact Qj.mpr ⟨p,hp,rfl⟩
variable {ins:List Str} {gs:J8} {z:Str} {xs:List Str}
section
theorem Met.len (m:Met ins gs z xs):(Bf.bfs (nxK (stN ins gs)) (Sum.inr z) xs.length).length=xs.length:=by rw[<-m.bfs];unfold aA;rw[Qa]
theorem Met.nd (m:Met ins gs z xs):xs.Nodup:=by
 have:=Bf.cB (nx:=nxK (stN ins gs)) (s:=(Sum.inr z:Key)) xs.length;rw[<-m.bfs]at this;unfold aA at this;exact(XN.mp this).imp λh e=>h (by rw[e])
theorem Met.zero (m:Met ins gs z xs):xs[0]?=-z:=by
 have:=Bf.qO (nx:=nxK (stN ins gs)) (s:=(Sum.inr z:Key)) xs.length;rw[<-m.bfs]at this;obtain⟨x,h1,h2⟩:=eJ.mp this;cases h2;exact h1
theorem Met.pred (m:Met ins gs z xs) {j:Nat} {x:Str} (hj:0<j) (e:xs[j]?=-x):∃i h p,i<j/\xs[i]?=-h/\p∈az ins gs h/\p.2=x:=by
 obtain⟨i,k,h1,_,h3,h4⟩:=Bf.lB (nx:=nxK (stN ins gs)) (s:=(Sum.inr z:Key)) xs.length j (Sum.inr x) hj (by rw[<-m.bfs];exact eJ.mpr ⟨x,e,rfl⟩);rw[<-m.bfs]at h3;obtain⟨h,e1,rfl⟩:=eJ.mp h3;obtain⟨p,hp,e2⟩:=wG.mp h4;exact{i,h,p,h1,e1,hp,(Sum.inr.inj e2).symm}
theorem Met.closed (m:Met ins gs z xs) {h:Str} (hh:h∈xs) {p:Str × Str} (hp:p∈az ins gs h):p.2∈xs:=by
 obtain⟨i,hi,e⟩:=Qo.mp hh;have:=Bf.lD (nx:=nxK (stN ins gs)) (s:=(Sum.inr z:Key)) (n:=xs.length) (i:=i) hi (by rw[<-m.bfs];exact eJ.mpr {h,by rw[Qc hi,e],rfl}) (Sum.inr p.2) (wG.mpr ⟨p,hp,rfl⟩);rw[<-m.bfs]at this;unfold aA at this;obtain⟨y,hy,e⟩:=Qj.mp this;cases e;exact hy
theorem Met.one {ys:List Str} (m:Met ins gs z xs) (m':Met ins gs z ys):xs=ys:=by
 have e:=Bf.yP m.len m'.len;have h:=m.bfs;rw[e,<-m'.bfs]at h;exact iR h
theorem lp {st:Str->List (Str × Str)}:∀{xs:List Str} {i:Nat} {h:Str} {p:Str × Str},xs[i]?=-h->p∈st h->∃i' h' nm,i'<=i/\xs[i']?=-h'/\iB (evs st xs) p.2=-(nm,h')
 | [],_,_,_,e,_=>by simp at e
 | x0::xs,i,h,p,e,hp=>by
  have split:evs st (x0::xs)=((st x0).map λp=>(p.2,(p.1,x0)))++evs st xs:=rfl
  cases q:((st x0).map λp=>(p.2,(p.1,x0))).find? λe=>e.1==p.2 with
  | some r =>
   have hm:=List.mem_of_find?_eq_some q;obtain⟨p',_,rfl⟩:=Qj.mp hm;refine{0,x0,p'.1,QB _,rfl,?_};unfold iB;rw[split,List.find?_append,q];rfl
  | none =>
  cases i with
  | zero =>
   simp at e;subst e;have:=List.find?_eq_none.mp q (p.2,(p.1,x0)) (Qj.mpr ⟨p,hp,rfl⟩);simp at this
  | succ i =>
  obtain⟨i',h',nm,a,b,c⟩:=lp (xs:=xs) (i:=i) (~~~e) hp;refine{i'+1,h',nm,⋯,~~~b,?_};unfold iB at c ⊢;rw[split,List.find?_append,q,Option.none_or];exact c
theorem Met.path (m:Met ins gs z xs):∀(j:Nat) (x:Str),xs[j]?=-x->∃ns,Path (az ins gs) xs z x ns/\ns.length<=j:=by
 intro j
 induction j using Nat.strongRecOn with
 | _ j ih =>
 intro x e;by_cases hj:j=0
 ·subst hj;rw[m.zero]at e;cases e;exact{[],.nil,Qh _}
 obtain⟨i,h,p,h1,h2,h3,rfl⟩:=m.pred ⋯ e;obtain⟨i',h',nm,a,b,c⟩:=lp h2 h3;obtain⟨ns,pn,ln⟩:=ih i' ⋯ h' b;refine{ns++[nm],.snoc (λq=>?_) c pn,by rw[Qk];simp;omega};rw[q]at e;have e0:=m.zero;have hl:=(Qe.mp e).1;have:=(List.getElem?_inj (i:=0) (j:=j) ⋯ m.nd).mp (by rw[e0,e]);omega
end
section
end
structure DOk (ns:List Int):Prop where
 lo:200<=ns.length
 hi:ns.length<=400
 each:∀n∈ns,0<=n/\n<10007
def sS (K:PySem.W.Frag):Sp:=λvs H Q _=>∃(s:Addr) (cs:List Int),vs=[.ref s,.int 200]/\SqL K H s (cs.map V.int)/\cs.length<=63/\∀l ns H',ao H H'->H l=none->H' l=-.lst (ns.map V.int)->DOk ns->Q (.ref l) H'
theorem jH {xs:List V} {lo hi:Option Int}:(∀x∈fS xs lo hi,x∈xs)/\(fS xs lo hi).length<=xs.length :=
 {λx hx=>List.mem_of_mem_drop (List.mem_of_mem_take hx),ji xs lo hi}
theorem tN:∀(xs:List V),(∀x∈xs,∃i:Int,x=.int i)->∃ds:List Int,xs=ds.map V.int
 | [],_=>{[],rfl}
 | x::xs,h=>by
  obtain⟨i,e⟩:=h x (by simp);obtain⟨ds,e2⟩:=tN xs λy hy=>h y (Qx _ hy);exact{i::ds,by rw[e,e2];rfl}
theorem xt (cs:List Int) (h:cs.length<=63) {lo hi:Option Int}:∃ds:List Int,fS (cs.map V.int) lo hi=ds.map V.int/\ds.length<=63:=by
 obtain⟨m,l⟩:=jH (xs:=cs.map V.int) (lo:=lo) (hi:=hi)
 obtain⟨ds,e⟩:=tN (fS (cs.map V.int) lo hi) λx hx=>by
  obtain⟨i,_,e⟩:=Qj.mp (m x hx);exact⟨i,e.symm⟩
 refine{ds,e,?_};rw[e,Qa,Qa]at l;exact HS h l
theorem rZ {ns:List Int} {n:Int} (h:H p=-.lst (ns.map V.int)) (hz:ns.length<=500) (hns:∀m∈ns,0<=m/\m<10007) (hb:0<=n/\n<10007)
  (q:∀(H':Hp) (ns':List Int),H' p=-.lst (ns'.map V.int)->ns'.length=ns.length+1->(∀m∈ns',0<=m/\m<10007)->(∀b,b≠p->H' b=H b)->Q .non H'):nX (.ref p) [.int n] H Q:=by
 have big:1000<sizeLine:=by decide
 refine d9 h (by rw[Qa];exact HR hz big) (q _ (ns++[n]) (by rw[ae];simp) (by simp) (λm hm=>?_) λb hb=>am hb);rcases Qq.mp hm with h|h
 ·exact hns m h
 rw[Qu]at h;rw[h];exact hb
theorem rO (a:Int):0<=a % 10007/\a % 10007<10007:={Int.emod_nonneg _ (by decide),Int.emod_lt_of_pos _ (by decide)}
theorem kh (S:ao H H3) (hp:H p=none) (h:∀b,b≠p->H4 b=H3 b):ao H H4:=λb u e=>by rw[h b (aG e hp)];exact S b u e
section
theorem nM:FnScope ["script", "many", "drawn", "base", "k", "cell", "number", "one"] ["script", "many"] (aC (top 33)):=by fin2
theorem wC {f:Addr} {fd:FuncData} (Fu:Fun K "_law_draws" "_law_draws" (top 33) f fd) (T:Txt K mg TT):FnOk P w K mg base CX0 1 f fd ["script", "many"] (sS K):=by
 have S:=nM;w_up;obtain⟨a,cs,rfl,hS,hlen,k⟩:=h
 refine{_,(pss_cons (aF 2 S.nd (aZ af))
  (pss_cons (vW (i:=3) S.nd rfl (by z_go) ad)
  (pss_cons (ps_for PassesOwn.never rfl (s_ (by rfl) T.n_enumerate (aa (a9 cq (pv 0) bu (bt ad)) af)) (gY rfl (bE (bR 4 S.nd) (bE (bR 5 S.nd) ee)))
  (pss_cons (aF 6 S.nd (aE xE (by rfl) T.n_abs PyProof.Rows.boot_abs (aa (pv 5) af)))
  (pss_cons (aF 3 S.nd (ap aS (ap aR (ap dq (pv 3) ad) (pv 6)) ad))
  (a7 (ps_if (aL wf (pv 6) (ap we ad ad) (aN _)) (a7 (fX PassesOwn.never (PW.pt (n5 (aL zT (pv 6) ad (aN _)) (jz (aL jc (aE aM (by rfl) T.n_len QL (aa (pv 2) af)) (pv 1) (aN _)))))
  (pss_cons (bJ (cR QH QI QJ be (pv 2) (aa (ap aS (pv 6) ad) af)))
  (a7 (aF 6 S.nd (ap cK (pv 6) ad)))))) (pss_cons (aF 7 S.nd (ap aS (ap dq (ap aR (ap aR (ap aS (pv 6) ad) (pv 4)) ad) ad) ad))
  (pss_cons (aF 7 S.nd (ap aS (ap dq (pv 7) (pv 7)) ad))
  (pss_cons (bJ (cR QH QI QJ be (pv 2) (aa (ap aS (ap cK (pv 7) ad) ad) af)))
  (pss_cons (aF 7 S.nd (ap aS (ap aR (ap aR (ap dq (pv 7) ad) (ap dq ad (pv 4))) ad) ad))
  (pss_cons (aF 7 S.nd (ap aS (ap dq (pv 7) (pv 7)) ad))
  (a7 (bJ (cR QH QI QJ be (pv 2) (aa (ap aS (ap cK (pv 7) ad) ad) af))))))))))))))
  (pss_cons (ps_for PassesOwn.never rfl (cA (by rfl) T.n_range (aa (ap gb (pv 1) (aE aM (by rfl) T.n_len QL (aa (pv 2) af))) af)) (bR 4 S.nd)
  (pss_cons (aF 7 S.nd (ap aS (ap aR (ap aR (pv 3) (ap dq ad (pv 4))) ad) ad))
  (pss_cons (aF 7 S.nd (ap aS (ap dq (pv 7) (pv 7)) ad))
  (pss_cons (aF 7 S.nd (ap aS (ap aR (ap dq (pv 7) ad) (pv 4)) ad))
  (a7 (bJ (cR QH QI QJ be (pv 2) (aa (ap aS (ap cK (ap aS (ap dq (pv 7) (pv 7)) ad) ad) ad) af))))))))
  (a7 (aJ (pv 2))))))),?_}
 x_go;lk;refine{by decide,λp hp=>?_};generalize hE:upd _ p _=H1;have S1:ao H H1:=by rw[<-hE];exact ag hp
 have q1:H1 p=-.lst (([]:List Int).map V.int):=by rw[<-hE];exact ae
 clear hE;lk;show bp _ _ _ _ _;lk;refine jg (S1.seq hS) λsl hsl=>?_;obtain⟨ds,hds,dl⟩:∃ds:List Int,fS (cs.map V.int) none (some 63)=ds.map V.int/\ds.length<=63:=xt cs hlen;rw[hds];generalize hE:upd _ sl _=H2;have S2:ao H1 H2:=by rw[<-hE];exact ag hsl
 have q2:H2 sl=-.lst (ds.map V.int):=by rw[<-hE];exact ae
 clear hE;have nps:p≠sl:=aG q1 hsl;refine aB {sl,rfl,{_,SqL.of q2},?_};let I6:IvF:=λi U H'=>(∃(bs:Int) (ns:List Int),∃x4 x5 x6 x7,U=[-.ref a,-.int 200,-.ref p,-.int bs,x4,x5,x6,x7]/\0<=bs/\bs<2147483629/\H' p=-.lst (ns.map V.int)/\ns.length<=200+2*i/\∀n∈ns,0<=n/\n<10007)/\ao H H'/\H' sl=-.lst (ds.map V.int)
 refine qF (xs:=ds.map V.int) I6
  { {7,[],_,_,_,_,rfl,by decide,by decide,S2 _ _ q1,by simp,λn h=>nomatch h},S1.trans S2,q2} (λi U H' _ pv=>SqL.of pv.2.2) (λi x U H' t hx pv ht=>?_) (λU H' pv=>?_)
 ·obtain⟨⟨bs,ns,x4,x5,x6,x7,rfl,b0,b1,hp',hln,hns⟩,SS,hsl'⟩:=pv;rw[Qi]at hx
  cases hc:ds[i]? with
  | none=>rw[hc]at hx;cases hx
  | some c =>
  rw[hc]at hx;cases hx;have hi:i<ds.length:=(Qe.mp hc).1;have S3:=ag (o:=.tup [.int (i:Nat),.int c]) ht;refine{t,_,rfl,SqT.of ae,rfl,?_};refine{_,_,rfl,au {_,_,rfl,au ?_} };have hp3:=S3 _ _ hp';have hsl3:=S3 _ _ hsl';have SS3:=SS.trans S3;generalize upd H' t (.tup [.int (i:Nat),.int c])=H3 at *;refine{rfl,?_};have n0:0<=(if c<0 then (unop% Neg.neg c) else c):=by split <;> omega
  lk;generalize (if c<0 then (unop% Neg.neg c) else c)=nu at *;have bb0:0<=(bs*31+nu) % 2147483629:=Int.emod_nonneg _ (by decide);have bb1:(bs*31+nu) % 2147483629<2147483629:=Int.emod_lt_of_pos _ (by decide);generalize (bs*31+nu) % 2147483629=b2 at *;refine fv (λ_=>?_) (λ_=>?_)
  ·let I7:IvF:=λm U H'=>∃(nu:Int) (ns:List Int),∃x7,m=200-ns.length/\U=[-.ref a,-.int 200,-.ref p,-.int b2,-.int (i:Nat),-.int c,-.int nu,x7]/\H' p=-.lst (ns.map V.int)/\ns.length<=200+2*(i+1)/\(∀n∈ns,0<=n/\n<10007)/\ao H H'/\H' sl=-.lst (ds.map V.int)
   refine{I7,
    {_,nu,ns,_,rfl,rfl,hp3,⇑(HQ hln),hns,SS3,hsl3},?_}
   rintro m U H4 ⟨nu,ns,x7,rfl,rfl,hp4,hl4,hn4,SS4,hs4⟩
   have done:((∃(bs:Int) (ns:List Int),∃x4 x5 x6 x7',[-.ref a,-.int 200,-.ref p,-.int b2,-.int (i:Nat),-.int c,-.int nu,x7]=[-V.ref a,-V.int 200,-V.ref p,-V.int bs,x4,x5,x6,x7']/\0<=bs/\bs<2147483629/\H4 p=-.lst (ns.map V.int)/\ns.length<=200+2*(i+1)/\∀n∈ns,0<=n/\n<10007)/\ao H H4/\H4 sl=-.lst (ds.map V.int)) :=
    {⟨b2,ns,_,_,_,_,rfl,bb0,bb1,hp4,hl4,hn4⟩,SS4,hs4}
   lk;refine fv (λ_=>?_) (λ_=>du done);lk;refine fv (λhlt=>?_) (λ_=>done)
   have hlt':ns.length<200:=by
    have:=XM hlt;rw[Qa]at this;omega
   let I8:IvJ:=λU H'=>∃(nu:Int) (ns':List Int),∃x7,ns'.length=ns.length+1/\U=[-.ref a,-.int 200,-.ref p,-.int b2,-.int (i:Nat),-.int c,-.int nu,x7]/\H' p=-.lst (ns'.map V.int)/\ns'.length<=200+2*(i+1)/\(∀n∈ns',0<=n/\n<10007)/\ao H H'/\H' sl=-.lst (ds.map V.int);refine{I8,λσ' H' w=>by obtain⟨nu,ns',x7,e,r⟩:=w;exact{200-ns'.length,by rw[e];exact Nat.sub_lt_sub_left hlt' (XW _),nu,ns',x7,rfl,r},?_};lk;refine d9 hp4 (by rw[Qa];omega) ?_;lk;refine{_,ns++[nu % 10007],_,by simp,rfl,by rw[ae];simp,by simp;omega,λn hn=>?_,aQ SS4 hp,by rw[am nps.symm];exact hs4};rcases Qq.mp hn with h|h
   ·exact hn4 n h
   rw[Qu]at h;rw[h];exact{Int.emod_nonneg _ (by decide),Int.emod_lt_of_pos _ (by decide)}
  lk;refine rZ hp3 ⇑(HP dl hln hi) hns (rO _) λH4 ns4 hp4 l4 hn4 o4=>?_;lk;refine rZ hp4 ⇑(HN dl hln hi l4) hn4 (rO _) λH5 ns5 hp5 l5 hn5 o5=>?_;exact{ {b2,ns5,_,_,_,_,rfl,bb0,bb1,hp5,⋯,hn5},kh (kh SS3 hp o4) hp o5,by rw[o5 _ nps.symm,o4 _ nps.symm];exact hsl3}
 obtain⟨⟨bs,ns,x4,x5,x6,x7,rfl,b0,b1,hp',hln,hns⟩,SS,hsl'⟩:=pv;rw[Qa]at hln;lk;refine{by rw[Qa];omega,by rw[Qa];omega,?_};rw[Qa];let I9:IvF:=λi U H'=>(∃(ns':List Int),∃x4 x5 x6 x7,U=[-.ref a,-.int 200,-.ref p,-.int bs,x4,x5,x6,x7]/\H' p=-.lst (ns'.map V.int)/\ns'.length=ns.length+i/\∀n∈ns',0<=n/\n<10007)/\ao H H';refine dO I9 {⟨ns,_,_,_,_,rfl,hp',rfl,hns⟩,SS} (λi U H' hi pv=>?_) (λU H' pv=>?_)
 ·obtain⟨⟨ns',x4,x5,x6,x7,rfl,hp6,hl6,hn6⟩,SS6⟩:=pv;have hi':i<200:=by omega
  refine au ?_;lk;refine rZ hp6 ⋯ hn6 (rO _) λH7 ns7 hp7 l7 hn7 o7=>?_;exact{ {ns7,_,_,_,_,rfl,hp7,⇑(HM hl6 l7),hn7},kh SS6 hp o7}
 obtain⟨⟨ns',x4,x5,x6,x7,rfl,hp6,hl6,hn6⟩,SS6⟩:=pv;refine bH (te:=bY 2) (D:={ nx:=λx H'=>Q V.non H',rt:=Q }) (ai rfl ?_);exact k p ns' H' SS6 hp hp6 {⋯,⋯,hn6}
end
theorem fI {T:List Nat}:∀(zs:List Str),(∀z∈zs,∃c∈T,z={#[c]})->((zs.map (·.cps.toList)).flatten).length=zs.length/\(∀c∈(zs.map (·.cps.toList)).flatten,c∈T)/\(zs.map (·.length)).sum=zs.length
 | [],_=>{rfl,λc h=>(List.not_mem_nil h).elim,rfl}
 | z::zs,h=>by
  obtain⟨c,hc,rfl⟩:=h z (by simp);obtain⟨e1,e2,e3⟩:=fI zs λz hz=>h z (Qx _ hz);refine{?_,λd hd=>?_,?_}
  ·simp only[QN,List.flatten_cons,Qk,e1,QT];show (#[c]:Array Nat).toList.length+zs.length=_;simp;omega
  ·simp only[QN,List.flatten_cons,Qq]at hd;rcases hd with hd|hd
   ·have:d=c:=by simpa using hd
    rw[this];exact hc
   exact e2 d hd
  simp only[QN,List.sum_cons,QT,e3];show (#[c]:Array Nat).size+zs.length=_;simp;omega
theorem uY {T:List Nat} (h:∀z∈zs,∃c∈T,z={#[c]}):(Txt.join Str.empty zs).cps.size=zs.length/\∀c∈(Txt.join Str.empty zs).cps.toList,c∈T:=by
 obtain⟨e1,e2,_⟩:=fI zs h;rw[<-Qs,mQ];exact⟨e1,e2⟩
theorem yR {t:Str} {r:Int} (h0:0<=r) (h1:r<t.cps.size):∃c,atI t.cps.toList r=-c/\c∈t.cps.toList:=by
 have hr:r.toNat<t.cps.toList.length:=by rw[Qs];omega
 refine{t.cps.toList[r.toNat],?_,Xo hr};have e:r=((r.toNat:Nat):Int):=by omega
 have q:=ck (xs:=t.cps.toList) (j:=r.toNat) (v:=t.cps.toList[r.toNat]) (Qc hr);rw[<-e]at q;exact q
def Lt:Str := "abcdefghijklmnopqrstuvwxyz"
def Xn (t:Nat):Str:=Txt.mul {#[Lt.cps.getD t 0]} 8
theorem BG:∀i,i<26->∀j,j<26->Xn i=Xn j->i=j:=by decide +kernel
theorem BF:∀t,t<26->(Xn t).length=8:=by decide +kernel
theorem FV (c:Nat):MulOk {#[c]} 8:=by
 refine{by decide,λ_ _=>?_,λ_ _=>?_}
 ·show ¬((1:Int)>(2 ^ 63-1) / 8)
  decide
 rfl
theorem pigeon:∀(xs ys:List Str),xs.Nodup->(∀x∈xs,x∈ys)->xs.length<=ys.length
 | [],ys,_,_=>QB _
 | x::xs,ys,nd,h=>by
  rw[Q6]at nd;have hx:=h x (by simp);have:=pigeon xs (ys.erase x) nd.2 λy hy=>(List.mem_erase_of_ne (λz:y=x=>nd.1 (by rw[<-z];exact hy))).mpr (h y (Qx _ hy));rw[List.length_erase_of_mem hx]at this;have:0<ys.length:=List.length_pos_of_mem hx;rw[QT];omega
theorem qQ:∀t,t<=26->((List.range t).map Xn).Nodup
 | 0,_=>by simp
 | t+1,h=>by
  rw[List.range_succ,Qp,Xw];refine{qQ t ⋯,by simp,λa ha b hb e=>?_};obtain⟨i,hi,rfl⟩:=Qj.mp ha;rw[List.mem_range]at hi;have:b=Xn t:=by simpa using hb
  subst this;have:=BG i ⋯ t ⋯ e;omega
theorem Gc {t:Nat} (ht:t<=26) (h:∀j,j<t->Xn j∈ns):t<=ns.length:=by
 have:=pigeon ((List.range t).map Xn) ns (qQ t ht) λx hx=>by
  obtain⟨j,hj,rfl⟩:=Qj.mp hx;exact h j (List.mem_range.mp hj)
 simpa using this
structure NmOk (b:Nat) (z:Str):Prop where
 pos:1<=z.length
 lt:z.length<b
def Bd (k:Nat):Nat:=9*2 ^ k
theorem ua (k:Nat):Bd (k+1)=2*Bd k:=by unfold Bd;rw[Nat.pow_succ];omega
theorem Aw:∀k,9<=Bd k
 | 0=>by decide
 | k+1=>by rw[ua];have:=Aw k;omega
theorem Go:∀k,k<=11->Bd k<=20000:=by decide
theorem yQ (h:ns≠[]):∃n∈ns,atI (ns.map V.str) ((unop% Neg.neg 1))=-.str n:=by
 have hl:0<ns.length:=List.length_pos_iff.mpr h;refine{ns[ns.length-1],Xo _,?_}
 have e:ixN (ns.map V.str).length ((unop% Neg.neg 1))=-(ns.length-1):=by
  unfold ixN;rw[Qa,QE (by decide),QF ⋯];congr 1;omega
 unfold atI;rw[e];show (ns.map V.str)[ns.length-1]?=_;rw[Qi,Qc ⋯];rfl
theorem tZ {ws:List Str} {r:Int} (h0:0<=r) (h1:r<ws.length):∃n∈ws,atI (ws.map V.str) r=-.str n:=by
 have hr:r.toNat<ws.length:=by omega
 refine{ws[r.toNat],Xo hr,?_};have e:r=((r.toNat:Nat):Int):=by omega
 have q:=ck (xs:=ws.map V.str) (j:=r.toNat) (v:=.str ws[r.toNat]) (by rw[Qi,Qc hr];rfl);rw[<-e]at q;exact q
theorem um {z:Str} {j:Int} (hz:1<=z.length) (hj:1<=j) (hn:j<=z.length):1<=(Txt.slice z none (-j)).length:=by
 have h':z.length=z.cps.size:=rfl;have e:j=((j.toNat:Nat):Int):=by omega
 have q:=congrArg List.length (jX (z:=z) (j:=j.toNat) ⋯);rw[<-e,Qs,Qt,Qs]at q;show 1<=(Txt.slice z none (-j)).cps.size;omega
def pF:Sp:=λvs H Q _=>∃(d:Addr) (ns:List Int) (spot:Int),vs=[.ref d,.int spot]/\H d=-.lst (ns.map V.int)/\DOk ns/\0<=spot/\spot<=1000 /\
 ∀l (nm:List Str) H',ao H H'->H l=none->nm.length=11->nm.Nodup->H' l=-.lst (nm.map V.str)->Q (.ref l) H'
theorem oO {ns:List Int} (h:DOk ns) (i:Int):∃n,0<=n/\n<10007/\atI (ns.map V.int) (i % ((ns.map V.int).length:Int))=-.int n:=by
 have lo:=h.lo;rw[Qa];have h1:0<=i % (ns.length:Int):=Int.emod_nonneg _ ⋯;have h2:i % (ns.length:Int)<ns.length:=Int.emod_lt_of_pos _ ⋯;have h3:(i % (ns.length:Int)).toNat<ns.length:=by omega
 have e:i % (ns.length:Int)=(((i % (ns.length:Int)).toNat:Nat):Int):=by omega
 obtain⟨e1,e2⟩:=h.each _ (Xo h3);refine{ns[(i % (ns.length:Int)).toNat],e1,e2,?_};have q:=ck (xs:=ns.map V.int) (j:=(i % (ns.length:Int)).toNat) (v:=.int ns[(i % (ns.length:Int)).toNat]) (by rw[Qi,Qc h3];rfl);rw[<-e]at q;exact q
theorem cM {ns:List Int} (h:DOk ns) {i:Int} (h0:0<=i) (h1:i<200):∃n,0<=n/\n<10007/\atI (ns.map V.int) i=-.int n:=by
 have lo:=h.lo;have h3:i.toNat<ns.length:=by omega
 obtain⟨e1,e2⟩:=h.each _ (Xo h3);refine{ns[i.toNat],e1,e2,?_};have e:i=((i.toNat:Nat):Int):=by omega
 have q:=ck (xs:=ns.map V.int) (j:=i.toNat) (v:=.int ns[i.toNat]) (by rw[Qi,Qc h3];rfl);rw[<-e]at q;exact q
theorem kA:∀(zs:List Str),(∀z∈zs,z.length=2)->((zs.map (·.cps.toList)).flatten).length=2*zs.length/\(zs.map (·.length)).sum=2*zs.length
 | [],_=>⟨rfl,rfl⟩
 | z::zs,h=>by
  have h0:z.cps.size=2:=h z (by simp);have h0':z.length=2:=h0;obtain⟨e1,e3⟩:=kA zs λz hz=>h z (Qx _ hz);refine{?_,?_}
  ·simp only[QN,List.flatten_cons,Qk,e1,QT,Qs,h0];exact zH
  simp only[QN,List.sum_cons,QT,e3,h0'];exact zH
theorem lap (a b:Str):(a++b).length=a.length+b.length:=by show (a.cps++b.cps).size=_;rw[Xv];rfl
theorem nh (i:Int):∃c,atI Lt.cps.toList (i % 26)=-c:=by
 have z26:((Lt.cps.size:Nat):Int)=26:=by decide +kernel
 obtain⟨c,e,_⟩:=yR (t:=Lt) (r:=i % 26) (Int.emod_nonneg _ (by decide)) (by rw[z26];exact Int.emod_lt_of_pos _ (by decide));exact⟨c,e⟩
def NJd (d l so:Addr) (spot:Int) (H:Hp) (wd:Str) (i:Nat) (ns:List Str):St->Hp->Prop:=λU H'=>∃(way x:Int) (nm:Str) (x10 x11:Option V),U=[-.ref d,-.int spot,-.str Lt,-.ref l,-.int (0+i),-.ref so,-.str wd,-.int way,-.int x,-.str nm,x10,x11]/\0<=x/\NmOk (Bd (i+1)) nm/\H' l=-.lst (ns.map V.str)/\ao H H'
section
theorem nH:FnScope ["d", "spot", "letters", "found", "k", "some", "word", "way", "x", "name", "at", "turn"] ["d", "spot"] (aC (top 34)):=by fin2
theorem uK {f:Addr} {fd:FuncData} (Fu:Fun K "_law_names" "_law_names" (top 34) f fd) (T:Txt K mg TT):FnOk P w K mg base CX0 1 f fd ["d", "spot"] pF:=by
 have S:=nH;w_up;obtain⟨d,ds,spot,rfl,hd,dok,sp0,sp1,k⟩:=h;refine'{?_,?bb,?_}
 case bb =>
  walk_at "b";exact aF 2 S.nd aP;exact aF 3 S.nd (aZ af);walk_at "f";exact(cA (by rfl) T.n_range (aa ad af aK));exact(bR 4 S.nd);walk_at "p";exact(zt (j:=5) S.nd rfl (by z_go) (tgs:=["j"]) (cap:=[("d", 0),("spot", 1),("k", 4)]) rfl ⟨rfl,rfl,rfl,rfl,rfl,rfl⟩ (cA (by rfl) T.n_range (aa ad af aK)) (λ_ _ _ _=>(dh (i:=0) (show List.Nodup [("j" : Str),("d" : Str),("spot" : Str),("k" : Str)] by decide +kernel) rfl (by z_go))) (λ_ _ _ _=>fY) (λ_ _ _ _=>(aD (d5 (K:=K) rfl) (pv 1) (ap aS (ap aR (ap aR (ap aR ad (pv 2)) (ap dq ad (pv 3))) (pv 0)) (aE (dX (K:=K) rfl) (by rfl) T.n_len QL (aa (pv 1) af aj))))));exact aF 6 S.nd (cR PySem.F.plainAttrs_str PySem.F.slot_str_join PySem.F.type_str_join tD aP (aa (dB "one" [("letters", 2)] (bw (a9 cq (pv 5) bu (bt ad))) (λ_ _ _ _=>(ap bO (aD fh (pv 1) (ap aS (pv 0) ad)) (aD fh (pv 1) (ap aS (ap cK (pv 0) ad) ad))))) af));exact aF 7 S.nd (ap aS (aD aH (pv 5) ad) ad);exact aF 8 S.nd (ap cK (aD aH (pv 5) ad) ad);exact aF 9 S.nd (a9 fc (pv 6) bu (bt (ap aR ad (ap aS (pv 8) ad))));exact(aL cE (pv 7) ad (aN _));exact aF 9 S.nd (ap bO (a9 fc (aD aH (ap cu (pv 3) (aZ (aa (pv 6) af aj))) ad) bu (bt (ap aS (pv 8) ad))) (aD fh (pv 6) ad));exact(PW.pt (n5 (aL cE (pv 7) ad (aN _)) (jz (aL (og hr.units) (pv 3) (aZ af) (aN _)))));exact aF 10 S.nd (ap aS (pv 8) (aE dA (by rfl) T.n_len QL (aa (aD aH (pv 3) (mG iF ad)) af)));exact aF 9 S.nd (ap bO (ap bO (a9 fc (aD aH (pv 3) (mG iF ad)) bu (bt (pv 10))) (aD fh (pv 6) ad)) (a9 fc (aD aH (pv 3) (mG iF ad)) (bt (ap aR (pv 10) ad)) bu));exact(aL cE (pv 7) ad (aN _));exact aF 9 S.nd (aD aH (aZ (aa aP (aa aP (aa aP (aa aP (aa aP (aa aP (aa aP (aa aP (aa aP (aa aP af aK) aK) aK) aK) aK) aK) aK) aK) aK) aK)) (ap aS (pv 8) ad));exact aF 11 S.nd ad;refine' fX PassesOwn.never ?_ ?_;rotate_left 2;exact(aL uB (pv 9) (pv 3) rfl);walk_at "p";exact aF 9 S.nd (ap rq (aD fh (pv 2) (pv 11)) ad);exact aF 11 S.nd (ap aR (pv 11) ad);exact(bJ (cR QH QI QJ be (pv 3) (aa (pv 9) af aj)));exact(aJ (pv 3))
 x_go;lk;refine{by decide,λl hl=>?_};generalize hE:upd _ l _=H1;have S1:ao H H1:=by rw[<-hE];exact ag hl
 have q1:H1 l=-.lst (([]:List Str).map V.str):=by rw[<-hE];exact ae
 clear hE;lk;refine{by decide,by decide,?_};let I10:IvF:=λi U H'=>∃x4 x5 x6 x7 x8 x9 x10 x11,∃ns:List Str,U=[-.ref d,-.int spot,-.str Lt,-.ref l,x4,x5,x6,x7,x8,x9,x10,x11]/\i<=11/\ns.length=i/\ns.Nodup/\(∀n∈ns,NmOk (Bd i) n)/\H' l=-.lst (ns.map V.str)/\ao H H'
 refine dO (n:=11) I10
  {_,_,_,_,_,_,_,_,[],rfl,QB _,rfl,List.nodup_nil,(λn h=>nomatch h),q1,S1} (λi U H' hi pv=>?_) (λU H' pv=>?_)
 ·obtain⟨x4,x5,x6,x7,x8,x9,x10,x11,ns,rfl,_,hn,nd,good,hl',SS⟩:=pv;have bge:=Aw i;have ble:=Go i ⋯;have bsu:=ua i;refine au ?_;lk;refine bS ?_;lk;refine{by decide,by decide,λso hso=>?_};have hdH:=SS _ _ hd;let I11:IvC:=λn H2 ys=>ao H' H2/\H2 so=-.lst ys/\∃zs:List Int,ys=zs.map V.int/\zs.length=n/\∀z∈zs,0<=z/\z<10007;refine fK I11 {ag hso,ae,[],rfl,rfl,λz h=>nomatch h} (λn H2 ys p=>p.2.1) (λn H2 ys hn5 p=>?_) (λH2 ys p=>?_)
  ·obtain⟨S2,h2,zs,rfl,hz,hc⟩:=p;refine au {⟨rfl,rfl,rfl,trivial⟩,i_yes (ce ?_)};show tOp _ _ _ [-.int (0+n),-.ref d,-.int spot,-.int (0+i)] _ _;have hd2:=S2 _ _ hdH;have lo:=dok.lo;lk;refine cZ (by rw[Qa];omega) ?_;obtain⟨m,m0,m1,em⟩:=oO dok (140+spot+5*(0+(i:Int))+(0+(n:Int)));refine bh (SqL.of hd2) em ?_;refine b9.mk h2 hn5 (by rw[Qa];omega) {aQ S2 hso,ae,zs++[m],by simp,by simp[hz],λz hz'=>?_};rcases Qq.mp hz' with h|h
   ·exact hc z h
   rw[Qu]at h;rw[h];exact⟨m0,m1⟩
  obtain⟨S2,h2,zs,rfl,hz,hc⟩:=p
  obtain⟨z0,z1,z2,z3,z4,rfl⟩:∃z0 z1 z2 z3 z4,zs=[z0,z1,z2,z3,z4]:=by
   match zs,hz with
   | [z0,z1,z2,z3,z4],_=>exact⟨z0,z1,z2,z3,z4,rfl⟩
  have SS2:=SS.trans S2;have hl2:=S2 _ _ hl';have c4:=hc z4 (by simp);lk;refine{rfl,?_};lk;refine bS ?_;lk;refine jg (SqL.of h2) λsl hsl=>?_;rw[show fS (([z0,z1,z2,z3,z4]:List Int).map V.int) none (-4)=([z0,z1,z2,z3]:List Int).map V.int from rfl];generalize hE:upd _ sl _=H3;have S3:ao H2 H3:=by rw[<-hE];exact ag hsl
  have q3:H3 sl=-.lst (([z0,z1,z2,z3]:List Int).map V.int):=by rw[<-hE];exact ae
  clear hE;refine{sl,rfl,{_,SqL.of q3},λwl hwl=>?_};let I12:IvC:=λn H4 ys=>ao H3 H4/\H4 wl=-.lst ys/\∃ws:List Str,ys=ws.map V.str/\ws.length=n/\∀w∈ws,w.length=2;refine bU (xs:=([z0,z1,z2,z3]:List Int).map V.int) I12 {ag hwl,ae,[],rfl,rfl,λz h=>nomatch h} (λn H4 ys p=>{p.2.1,SqL.of (p.1 _ _ q3)}) (λn y H4 ys e p=>?_) (λH4 ys p=>?_)
  ·obtain⟨S4,h4,ws,rfl,hw,hc4⟩:=p;have hn4:n<4:=(Qe.mp e).1;rw[Qi]at e
   cases ez:([z0,z1,z2,z3]:List Int)[n]? with
   | none=>rw[ez]at e;cases e
   | some o =>
   rw[ez]at e;cases e;refine au {⟨rfl,trivial⟩,i_yes (ce ?_)};show tOp _ _ _ [-.int o,-.str Lt] _ _;obtain⟨c1,e1⟩:=nh o;obtain⟨c2,e2⟩:=nh (o / 26);lk;refine gK (by decide +kernel) e1 ?_;lk;refine gK (by decide +kernel) e2 ?_;refine{_,_,rfl,rfl,(by show 1+1<=sizeLine;decide),?_};refine b9.mk h4 hn4 (by rw[Qa];exact CA (by decide) hw hn4) {aQ S4 hwl,ae,ws++[{#[c1]}++{#[c2]}],by simp,by simp[hw],λz hz'=>?_};rcases Qq.mp hz' with h|h
   ·exact hc4 z h
   rw[Qu]at h;rw[h];rfl
  obtain⟨S4,h4,ws,rfl,hw,hc4⟩:=p;have hw:ws.length=4:=hw;obtain⟨f1,f2⟩:=kA ws hc4;have e0:("" : Str)=Str.empty:=by decide +kernel
  have e00:("" : Str).length=0:=by decide +kernel
  have SS4:=SS2.trans (S3.trans S4);have hl4:=(S3.trans S4) _ _ hl2;have h24:=(S3.trans S4) _ _ h2;refine aB {"", wl,ws,rfl,rfl,SqL.of h4,by rw[f2,e00];exact Cz hw hw,?_};rw[e0]
  have wdl:(Txt.join Str.empty ws).length=8:=by
   show (Txt.join Str.empty ws).cps.size=8;rw[<-Qs,mQ,f1,hw]
  generalize Txt.join Str.empty ws=wd at *;have wd':wd.cps.size=8:=wdl;clear S2 S3 S4 h2 q3 h4 f1 f2 hw hc4 hso hsl hwl hl2 SS2;lk;have x0:0<=z4 / 4:=by omega
  generalize z4 / 4=xx at *;generalize z4 % 4=way at *;have sp:=um (z:=wd) (j:=1+xx % 8) ⇑(zF wdl) ⋯ ⋯;have sle:=XR wd none (-(1+xx % 8));refine jf ⇑(wb (by decide) wdl) ?_;have hnm:NmOk (Bd (i+1)) (Txt.slice wd none (-(1+xx % 8))):={sp,⋯};generalize Txt.slice wd none (-(1+xx % 8))=nm at *;refine au ?_;have aw:atI wd.cps.toList 0=-wd.cps.getD 0 0:=ck (j:=0) (by simp[Array.getD,wd']);have l1:∀c,({#[c]}:Str).length=1:=λ_=>rfl;with_reducible refine de (NJd d l so spot H wd i ns) (λR hR=>?_) (λσ6 H6 j6=>?_)
  ·lk;refine fv (λ_=>?_) (λ_=>hR _ _ ⟨way,xx,nm,x10,x11,rfl,x0,hnm,hl4,SS4⟩);lk;refine{by show 1<=sizeLine;decide,λp hp=>?_};generalize hE:upd _ p _=H5;have S5:ao H4 H5:=by rw[<-hE];exact ag hp
   have q5:H5 p=-.lst [.str wd]:=by rw[<-hE];exact ae
   clear hE;have hl5:=S5 _ _ hl4;refine gL hl5 q5 (by rw[Qa];simp;exact Cy (by decide) hi hn) λp2 hp2=>?_;rw[show ns.map V.str++[V.str wd]=(ns++[wd]).map V.str from by simp];generalize hE:upd _ p2 _=H6;have S6:ao H5 H6:=by rw[<-hE];exact ag hp2
   have q6:H6 p2=-.lst ((ns++[wd]).map V.str):=by rw[<-hE];exact ae
   clear hE
   obtain⟨a0,ha0,ea0,la0⟩:∃a0,a0∈ns++[wd]/\atI ((ns++[wd]).map V.str) 0=some (.str a0)/\a0.length<Bd i:=by
    cases ens:ns with
    | nil=>exact{wd,by simp,rfl,⇑(Cw bge ble wdl)}
    | cons a r=>exact{a,by simp,ck (j:=0) (by simp),(good a (by rw[ens];simp)).lt}
   lk;refine bh (SqL.of q6) ea0 ?_;lk;refine jf ⇑(tm (by decide) bge ble la0) ?_;lk;refine gK ⇑(wb (by decide) wdl) aw ?_;have sl:=XR a0 none (-(xx % 8));refine{_,_,rfl,rfl,by rw[l1];omega,?_};refine au (hR _ _ {way,xx,_,x10,x11,rfl,x0,?_,(S5.trans S6) _ _ hl4,SS4.trans (S5.trans S6)});exact{by rw[lap,l1];exact Cv,by rw[lap,l1];exact Cu bsu la0 sl}
  clear hnm SS4 hl4 h24 x0;with_reducible refine de (NJd d l so spot H wd i ns) (λR hR=>?_) (λσ7 H7 j7=>?_)
  ·obtain⟨way,xx,nm,x10,x11,rfl,x0,hnm,hl6,SS6⟩:=j6;have out:∀H',ao H6 H'->R [-.ref d,-.int spot,-.str Lt,-.ref l,-.int (0+i),-.ref so,-.str wd,-.int way,-.int xx,-.str nm,x10,x11] H':=λH' kq=>hR _ _ {way,xx,nm,x10,x11,rfl,x0,hnm,kq _ _ hl6,SS6.trans kq};lk;refine fv (λ_=>?_) (λ_=>?_)
   ·lk;refine{by decide,λp hp=>?_};have S7:=ag (o:=.lst []) hp;have hl7:=S7 _ _ hl6;refine{l,p,_,[],λ_=>true,rfl,rfl,SqL.of hl7,SqL.of ae,(λj x y _ h=>by simp at h),{_,rfl,?_} };refine fv (λhne=>?_) (λ_=>out _ S7);have nne:ns≠[]:=λz=>by subst z;simp at hne
    obtain⟨la,hla,ela⟩:=yQ nne;have gla:=good la hla;have gp:=gla.pos;have gl:=gla.lt;have SS8:=SS6.trans S7;generalize upd H6 p (.lst [])=H8 at *;lk;refine bh (SqL.of hl7) ela ?_;lk;refine{_,rfl,⇑(tm (by decide) bge ble gl),?_};refine cZ ⋯ ?_;lk;refine bh (SqL.of hl7) ela ?_;lk;refine jf ⇑(tm (by decide) bge ble gl) ?_;lk;refine gK ⇑(wb (by decide) wdl) aw ?_;generalize xx % (la.length:Int)=at1 at *;have sl1:=XR la none (-at1);have sl2:=XR la (-(at1+1)) none;refine{_,_,rfl,rfl,by rw[l1];omega,?_};lk;refine bh (SqL.of hl7) ela ?_;lk;refine jf ⇑(tm (by decide) bge ble gl) ?_;refine{_,_,rfl,rfl,by rw[lap,l1];omega,?_};refine au (hR _ _ {way,xx,_,_,x11,rfl,x0,?_,hl7,SS8});exact{by rw[lap,lap,l1];exact Ct,by rw[lap,lap,l1];exact Cs bsu gl sl1 sl2}
   first|exact out _ (ao.refl _)|exact du (out _ (ao.refl _))
  with_reducible refine de (NJd d l so spot H wd i ns) (λR hR=>?_) (λσ8 H8 j8=>?_)
  ·obtain⟨way,xx,nm,x10,x11,rfl,x0,hnm,hl6,SS6⟩:=j7;lk;refine fv (λ_=>?_) (λ_=>hR _ _ ⟨way,xx,nm,x10,x11,rfl,x0,hnm,hl6,SS6⟩);lk;refine{by decide +kernel,λp hp=>?_};have S7:=ag (o:=.lst ((["a", "wire", "not", "and", "or", "zzzzzzzz", "in", "start", "none", "end"]:List Str).map V.str)) hp;have hl7:=S7 _ _ hl6;have hp7:upd H7 p (.lst ((["a", "wire", "not", "and", "or", "zzzzzzzz", "in", "start", "none", "end"]:List Str).map V.str)) p=-.lst ((["a", "wire", "not", "and", "or", "zzzzzzzz", "in", "start", "none", "end"]:List Str).map V.str):=ae;show tOp _ _ _ _ (upd H7 p (.lst ((["a", "wire", "not", "and", "or", "zzzzzzzz", "in", "start", "none", "end"]:List Str).map V.str))) _;have SS8:=SS6.trans S7;generalize upd H7 p (.lst ((["a", "wire", "not", "and", "or", "zzzzzzzz", "in", "start", "none", "end"]:List Str).map V.str))=H8 at *;obtain⟨pw,hw,ew⟩:=tZ (ws:=["a", "wire", "not", "and", "or", "zzzzzzzz", "in", "start", "none", "end"]) (r:=xx % 10) ⋯ (by show xx % 10<10;omega);lk;refine bh (SqL.of hp7) ew ?_;refine au (hR _ _ {way,xx,pw,x10,x11,rfl,x0,?_,hl7,SS8});have hh:∀wd∈(["a", "wire", "not", "and", "or", "zzzzzzzz", "in", "start", "none", "end"]:List Str),1<=wd.length/\wd.length<=8:=by decide +kernel
   obtain⟨q1,q2⟩:=hh pw hw;exact{q1,⇑(Cr bge ble bsu q1 q2)}
  obtain⟨way,xx,nm,x10,x11,e,x0,hnm,hl6,SS6⟩:=j8;subst e;with_reducible refine s_seq (bj (i_c (au ?_)))
  let I13:IvJ:=λU H'=>∃(t:Int) (nm:Str),U=[-.ref d,-.int spot,-.str Lt,-.ref l,-.int (0+i),-.ref so,-.str wd,-.int way,-.int xx,-.str nm,x10,-.int t]/\NmOk (Bd (i+1)) nm/\nm∉ns/\H'=H8;with_reducible refine de I13 (λR hR=>?_) (λσ9 H9 j9=>?_)
  ·let I14:IvF:=λn U H'=>∃(t:Nat) (nm:Str),n=26-t/\t<=11/\U=[-.ref d,-.int spot,-.str Lt,-.ref l,-.int (0+i),-.ref so,-.str wd,-.int way,-.int xx,-.str nm,x10,-.int t]/\NmOk (Bd (i+1)) nm/\H'=H8/\(∀j,j+1<t->Xn j∈ns)/\(1<=t->nm=Xn (t-1));refine{I14,{26,0,nm,rfl,⋯,rfl,hnm,rfl,(λj h=>by omega),(λh=>by omega)},?_};rintro n U H' ⟨t,nm,rfl,t11,rfl,hnm,rfl,q1,q2⟩;have z26:((Lt.cps.size:Nat):Int)=26:=by decide +kernel
   lk;refine I0 (SqL.of hl6) rfl (mR ns) ?_;refine{_,rfl,?_};refine fv (λhin=>?_) (λhin=>?_)
   ·have hmem:=oA.mp hin
    have hall:∀j,j<t->Xn j∈ns:=λj hj=>by
     by_cases z:j+1<t
     ·exact q1 j z
     have:j=t-1:=by exact Cq t11 hj z
     rw[this,<-q2 ⇑(Cp t11 hj z this)];exact hmem
    have ht:=Gc ⇑(Co t11) hall;refine{_,λσ' H' w=>{26-(t+1),Nat.sub_lt_sub_left (Xy t11 (by decide)) (XW _),w},?_};lk
    have et:atI Lt.cps.toList ((t:Nat):Int)=-Lt.cps.getD t 0:=by
     refine ck ?_;have:t<Lt.cps.size:=by omega
     simp[Array.getD,this]
    refine gK (by decide +kernel) et ?_;lk;refine{_,_,rfl,rfl,FV _,?_};lk;refine{t+1,Xn t,rfl,⇑(Cn hi hn t11 ht),rfl,?_,rfl,(λj hj=>hall j ⇑(zM hj)),(λ_=>rfl)};have:=BF t ⇑(Cm t11);exact{⇑(zF this),⇑(Cl bge ble bsu this)}
   exact hR _ _ {t,nm,rfl,hnm,λz=>hin (oA.mpr z),rfl}
  obtain⟨t,nm,e,hnm,hnot,e9⟩:=j9;subst e e9;lk;refine d9 hl6 (by rw[Qa];exact Ck (by decide) hi hn) ?_;refine{_,_,_,_,_,_,_,_,ns++[nm],rfl,⇑(Cj hi hn),by simp[hn],?_,λn hn'=>?_,by rw[ae];simp,aQ SS6 hl}
  ·rw[Xw]
   exact{nd,by simp,λa ha b hb e=>hnot (by
    have hb':b=nm:=by simpa using hb
    rw[<-hb',<-e];exact ha)}
  rcases Qq.mp hn' with h|h
  ·have g:=good n h;have g1:=g.pos;have g2:=g.lt;exact{g1,⇑(Ci bsu g1 g2)}
  have:n=nm:=by simpa using h
  rw[this];exact hnm
 obtain⟨x4,x5,x6,x7,x8,x9,x10,x11,ns,rfl,_,hn,nd,good,hl',SS⟩:=pv;refine bH (te:=bY 3) (D:={ nx:=λx H'=>Q V.non H',rt:=Q }) (ai rfl ?_);exact k l ns H' SS hl hn nd hl'
end
structure KpP (q:Addr) (H H':Hp):Prop where
 old:∀b o,H b=-o->b≠q->H' b=-o
 at':∃n:Int,H' q=-.lst [.int n]
theorem KpP.trans (a:KpP q H H1) (b:KpP q H1 H2):KpP q H H2:={λc o e n=>b.old c o (a.old c o e n) n,b.at'}
theorem KpP.of (h:∃n:Int,H q=-.lst [.int n]) (S:ao H H'):KpP q H H':={λb o e _=>S b o e,let ⟨n,e⟩:=h;{n,S _ _ e} }
theorem KpP.new (k:KpP q H H') (hp:H' p=none):KpP q H (upd H' p o):=k.trans (KpP.of k.at' (ag hp))
theorem KpP.tups (h:∃n:Int,H q=-.lst [.int n]) (k:KpP q H H'):dH H H':=λb xs e=>k.old b _ e λz=>by obtain⟨n,h⟩:=h;rw[z,h]at e;cases e
theorem KpP.strs (h:∃n:Int,H q=-.lst [.int n]) (k:KpP q H H') (e:H l=-.lst (ns.map V.str)):H' l=-.lst (ns.map V.str):=k.old l _ e λz=>by
 obtain⟨n,h⟩:=h;rw[z,h]at e;have e:=Q2 e;injection e with e
 cases ns with
 | nil=>cases e
 | cons a r=>simp at e
theorem KpP.ints {ns:List Int} (h:∃n:Int,H q=-.lst [.int n]) (k:KpP q H H') (ok:DOk ns) (e:H l=-.lst (ns.map V.int)):H' l=-.lst (ns.map V.int):=k.old l _ e λz=>by
 obtain⟨n,h⟩:=h;rw[z,h]at e;have e:=Q2 e;injection e with e;have lo:=ok.lo;have:=congrArg List.length e;simp at this;omega
def jw (d:Nat):Sp:=λvs H Q _=>∃(da qa l:Addr) (ds:List Int) (ns:List Str) (m:Nat),vs=[.ref da,.ref qa,.ref l,.int m]/\H da=-.lst (ds.map V.int)/\DOk ds/\(∃n:Int,H qa=-.lst [.int n])/\H l=-.lst (ns.map V.str)/\ns≠[]/\ns.length<=1000/\1<=m/\m<=d /\
 ∀v r H',RAt H' v r->r.ok ns->r.dep<=m->KpP qa H H'->Q v H'
def rb:Sp:=λvs H Q _=>∃v1 v2 v3 r1 r2 r3,vs=[v1,v2,v3]/\RAt H v1 r1/\RAt H v2 r2/\RAt H v3 r3/\∀v H',ao H H'->RAt H' v (.orr (.an r1 r2) (.an r3 (.orr r1 r2)))->Q v H'
theorem t5 (ne:ns≠[]) (i:Int):∃n∈ns,atI (ns.map V.str) (i % ((ns.map V.str).length:Int))=-.str n:=by
 have hl:0<ns.length:=List.length_pos_iff.mpr ne;rw[Qa];have h1:0<=i % (ns.length:Int):=Int.emod_nonneg _ ⋯;have h2:i % (ns.length:Int)<ns.length:=Int.emod_lt_of_pos _ ⋯;exact tZ h1 h2
section
theorem pN:FnScope ["d", "pos", "names", "deep", "x", "way", "one"] ["d", "pos", "names", "deep"] (aC (top 35)):=by fin2
theorem qj {f:Addr} {fd:FuncData} (Fu:Fun K "_law_rule" "_law_rule" (top 35) f fd) (T:Txt K mg TT) (hm:mg "_law_rule" = -.ref f) (hk:PySem.W.keepIn K (.ref f)=true) (hb:gN K fd ["d", "pos", "names", "deep"] []):∀d,FnOk P w K mg base CX0 (d+1) f fd ["d", "pos", "names", "deep"] (jw d)
 | 0=>hU λvs H Q E ⟨_,_,_,_,_,m,_,_,_,_,_,_,_,h1,h2,_⟩=>by omega
 | d+1=>by
  have S:=pN;have f_law_rule:Fn P w K mg base "_law_rule" ["d", "pos", "names", "deep"] (d+1) (jw d):={f,fd,qj Fu T hm hk hb d,hm,hk,hb};refine Fu.ok S (λvs H Q E h=>?_) (λcdv A outer s H vs Q E hr h=>?_)
  ·obtain⟨da,qa,l,ds,ns,m,rfl,_⟩:=h;rfl
  obtain⟨da,qa,l,ds,ns,m,rfl,hd,dok,⟨n0,hq⟩,hl,ne,few,m1,m2,k⟩:=h;refine'{?_,?bb,?_}
  case bb =>
   walk_at "b";exact aF 4 S.nd (aD aH (pv 0) (ap aS (aD aH (pv 1) ad) (aE aM (by rfl) T.n_len QL (aa (pv 0) af aj))));exact(rl (ap aR (aD aH (pv 1) ad) ad) (v5 (pv 1) ad pI));exact aF 5 S.nd (ap aS (pv 4) ad);exact(PW.pt (fj (aL jc (pv 3) ad (aN _)) (eP (aL jc (pv 5) ad (aN _)))));exact(aJ (br (aa aP (aa (aD aH (pv 2) (ap aS (ap cK (pv 4) ad) (aE aM (by rfl) T.n_len QL (aa (pv 2) af aj)))) af) aK)));exact(aL jc (pv 5) ad (aN _));exact(aJ (br (aa aP (aa (a8 f_law_rule hr (aa (pv 0) (aa (pv 1) (aa (pv 2) (aa (ap gb (pv 3) ad) af) aj) aj) aj)) af se_call) aK)));exact aF 6 S.nd (a8 f_law_rule hr (aa (pv 0) (aa (pv 1) (aa (pv 2) (aa (ap gb (pv 3) ad) af) aj) aj) aj));refine' aJ ?e
   case e =>
    walk_at "q";exact(aD aH (aZ (aa aP (aa aP af aK) aK)) (ap aS (ap cK (pv 4) ad) ad));exact(pv 6);exact(a8 f_law_rule hr (aa (pv 0) (aa (pv 1) (aa (pv 2) (aa (ap gb (pv 3) ad) af se_bin) aj) aj) aj))
  x_go;have lo:=dok.lo;have nl:1<=ns.length:=List.length_pos_iff.mpr ne;lk;refine cZ (by rw[Qa];omega) ?_;obtain⟨x,x0,x1,ex⟩:=oO dok n0;refine bh (SqL.of hd) ex ?_;lk;generalize hE:upd H qa _=H1;have kp1:KpP qa H H1:={λb o e nb=>by rw[<-hE,am nb];exact e,n0+1,by rw[<-hE];exact ae};clear hE;have hq0:∃n:Int,H qa=-.lst [.int n]:=⟨n0,hq⟩;have hl1:=kp1.strs hq0 hl;have hd1:=kp1.ints hq0 dok hd
  have leaf:nr (bp (tC (V.str "wire")) (bp (tOp (rh K) (bY 2) (tOp (rI (λx j=>0<j) λi j=>V.int (i % j)) (tOp (rI Gn λi j=>V.int (i / j)) (bY 4) (tC (V.int 7))) (tCB (λxs H Q=>∃p ys,xs=[V.ref p]/\(SqL K H p ys\/SqT K H p ys)/\Q (V.int ↑ys.length) H) (bp (bY 2) eL)))) eL))
    [-.ref da,-.ref qa,-.ref l,-.int m,-.int x,-.int (x % 7),none] H1 Q:=by
   lk;refine cZ (by rw[Qa];omega) ?_;obtain⟨nm,hnm,enm⟩:=t5 ne (x / 7);refine bh (SqL.of hl1) enm ?_;lk;refine{by simp[sizeLine],λp hp=>?_};exact k _ (.w nm) _ (.w ae) hnm (by simp[Rl.dep];omega) (kp1.new hp)
  refine fv (λh1=>?_) (λh1=>?_)
  ·exact ce leaf
  have m3:2<=m:=by
   by_cases z:m=1
   ·exact absurd (by rw[z];decide) h1
   omega
  lk;refine fv (λh2=>?_) (λh2=>?_)
  ·exact leaf
  have em:(m:Int)-1=((m-1:Nat):Int):=by omega
  lk;refine fv (λh3=>?_) (λh3=>?_)
  ·lk;refine{da,qa,l,ds,ns,m-1,by rw[<-em],hd1,dok,kp1.at',hl1,ne,few,⋯,⋯,λv r H2 hv rok rd kp2=>?_};lk;refine{by simp[sizeLine],λp hp=>?_};exact k _ (.no r) _ (.no ae (hv.mono (ao.tups (ag hp)))) rok (by simp only[Rl.dep];omega) ((kp1.trans kp2).new hp)
  lk;refine{da,qa,l,ds,ns,m-1,by rw[<-em],hd1,dok,kp1.at',hl1,ne,few,⋯,⋯,λv r H2 hv rok rd kp2=>?_};have hl2:=kp2.strs kp1.at' hl1;have hd2:=kp2.ints kp1.at' dok hd1;have kp12:=kp1.trans kp2;lk;refine{by simp[sizeLine],λp hp=>?_};have hpp:upd H2 p (HO.lst [V.str "and", V.str "or"]) p=-.lst ((["and", "or"]:List Str).map V.str):=ae;have S3:=ag (o:=HO.lst [V.str "and", V.str "or"]) hp;have kp3:=KpP.of kp2.at' S3;generalize upd H2 p (HO.lst [V.str "and", V.str "or"])=H3 at *;have hv3:=hv.mono (ao.tups S3);have hl3:=S3 _ _ hl2;have hd3:=S3 _ _ hd2;lk
  have last:∀(wd:Str) (mk:Rl->Rl->Rl),(∀{H:Hp} {a:Addr} {v u:V} {r s:Rl},H a=-.tup [.str wd,v,u]->RAt H v r->RAt H u s->RAt H (.ref a) (mk r s))->(∀r s,(mk r s).dep=max r.dep s.dep+1)->(∀r s,r.ok ns->s.ok ns->(mk r s).ok ns) ->
    bp (bY 6) (bp (i8 (jw d) [] E0 (bp (bY 0) (bp (bY 1) (bp (bY 2) (bp (tOp (rI0 λi j=>V.int (i-j)) (bY 3) (tC (V.int 1))) eL))))) eL) [-.ref da,-.ref qa,-.ref l,-.int m,-.int x,-.int (x % 7),-v] H3
     λxs H5=>(V.str wd::xs).length<=sizeLine/\∀p,H5 p=none->Q (.ref p) (upd H5 p (.tup (V.str wd::xs))):=by
   intro wd mk c1 c2 c3;lk;refine{da,qa,l,ds,ns,m-1,by rw[<-em],hd3,dok,kp3.at',hl3,ne,few,⋯,⋯,λv2 s2 H5 hv2 rok2 rd2 kp5=>?_};lk;refine{by simp[sizeLine],λp hp=>?_};have S6:=ag (o:=HO.tup [V.str wd,v,v2]) hp;exact k _ (mk r s2) _ (c1 ae ((hv3.mono (kp5.tups kp3.at')).mono (ao.tups S6)) (hv2.mono (ao.tups S6))) (c3 _ _ rok rok2) (by rw[c2];omega) ((kp12.trans (kp3.trans kp5)).new hp)
  have hr2:x / 7 % 2=0\/x / 7 % 2=1:=by omega
  rcases hr2 with z|z
  ·rw[z];refine bh (SqL.of hpp) (v:=.str "and") rfl ?_;exact last "and" .an (λa b c=>.an a b c) (λ_ _=>rfl) (λ_ _ a b=>⟨a,b⟩)
  rw[z];refine bh (SqL.of hpp) (v:=.str "or") rfl ?_;exact last "or" .orr (λa b c=>.orr a b c) (λ_ _=>rfl) (λ_ _ a b=>⟨a,b⟩)
theorem pO:FnScope ["one", "other", "own"] ["one", "other", "own"] (aC (top 36)):=by fin2
theorem yw {f:Addr} {fd:FuncData} (Fu:Fun K "_law_held" "_law_held" (top 36) f fd) (T:Txt K mg TT):FnOk P w K mg base CX0 1 f fd ["one", "other", "own"] rb:=by
 have S:=pO;w_up;obtain⟨v1,v2,v3,r1,r2,r3,rfl,h1,h2,h3,k⟩:=h;refine{_,(a7 (aJ (br (aa aP (aa (br (aa aP (aa (pv 0) (aa (pv 1) af aj) aj) aK)) (aa (br (aa aP (aa (pv 2) (aa (br (aa aP (aa (pv 0) (aa (pv 1) af aj) aj) aK)) af se_tup) aj) aK)) af se_tup) se_tup) aK)))),?_};x_go;lk;refine{by simp[sizeLine],λp1 hp1=>?_};have S1:=ag (o:=.tup [.str "and", v1,v2]) hp1;have q1:upd H p1 (.tup [.str "and", v1,v2]) p1=-.tup [.str "and", v1,v2]:=ae;generalize upd H p1 (.tup [.str "and", v1,v2])=H1 at *;lk;refine{by simp[sizeLine],λp2 hp2=>?_};have S2:=ag (o:=.tup [.str "or", v1,v2]) hp2;have q2:upd H1 p2 (.tup [.str "or", v1,v2]) p2=-.tup [.str "or", v1,v2]:=ae;generalize upd H1 p2 (.tup [.str "or", v1,v2])=H2 at *;lk;refine{by simp[sizeLine],λp3 hp3=>?_};have S3:=ag (o:=.tup [.str "and", v3,.ref p2]) hp3;have q3:upd H2 p3 (.tup [.str "and", v3,.ref p2]) p3=-.tup [.str "and", v3,.ref p2]:=ae;generalize upd H2 p3 (.tup [.str "and", v3,.ref p2])=H3 at *;lk;refine{by simp[sizeLine],λp4 hp4=>?_};have S4:=ag (o:=.tup [.str "or", .ref p1,.ref p3]) hp4;have S14:=S1.trans (S2.trans (S3.trans S4));have m1:=h1.mono (ao.tups S14);have m2:=h2.mono (ao.tups S14);have m3:=h3.mono (ao.tups S14);exact k _ _ S14 (.orr ae (.an ((S2.trans (S3.trans S4)) _ _ q1) m1 m2) (.an (S4 _ _ q3) m3 (.orr ((S3.trans S4) _ _ q2) m1 m2)))
end
def jU:Sp:=λvs H Q _=>∃(da qa l:Addr) (ds:List Int) (ns:List Str) (v:V) (r:Rl),vs=[.ref da,.ref qa,.ref l,v]/\H da=-.lst (ds.map V.int)/\DOk ds/\(∃n:Int,H qa=-.lst [.int n])/\H l=-.lst (ns.map V.str)/\ns≠[]/\ns.length<=1000/\RAt H v r/\r.ok ns/\r.dep<=6 /\
 ∀v' r' H',RAt H' v' r'->r'.ok ns->r'.dep<=10->KpP qa H H'->Q v' H'
section
theorem lV:FnScope ["d", "pos", "names", "rule", "many", "k", "x", "one"] ["d", "pos", "names", "rule"] (aC (top 38)):=by fin2
theorem uN {f:Addr} {fd:FuncData} (Fu:Fun K "_law_deeper" "_law_deeper" (top 38) f fd) (T:Txt K mg TT):FnOk P w K mg base CX0 1 f fd ["d", "pos", "names", "rule"] jU:=by
 have S:=lV;w_up;obtain⟨da,qa,l,ds,ns,v,r,rfl,hd,dok,⟨n0,hq⟩,hl,ne,few,hv,rok,rd,k⟩:=h;refine'{?_,?bb,?_}
 case bb =>
  walk_at "b";exact aF 4 S.nd (ap aS (aD aH (pv 0) (ap aS (aD aH (pv 1) ad) (aE aM (by rfl) T.n_len QL (aa (pv 0) af aj)))) ad);walk_at "f";exact(cA (by rfl) T.n_range (aa (pv 4) af aj));exact(bR 5 S.nd);walk_at "p";exact(rl (ap aR (aD aH (pv 1) ad) ad) (v5 (pv 1) ad pI));exact aF 6 S.nd (aD aH (pv 0) (ap aS (aD aH (pv 1) ad) (aE aM (by rfl) T.n_len QL (aa (pv 0) af aj))));exact aF 7 S.nd (br (aa aP (aa (aD aH (pv 2) (ap aS (pv 6) (aE aM (by rfl) T.n_len QL (aa (pv 2) af aj)))) af) aK));exact aF 3 S.nd (aD aH (aZ (aa (br (aa aP (aa (pv 3) af aj) aK)) (aa (br (aa aP (aa (pv 7) (aa (pv 3) af aj) aj) aK)) (aa (br (aa aP (aa (pv 3) (aa (pv 7) af aj) aj) aK)) (aa (br (aa aP (aa (pv 7) (aa (pv 3) af aj) aj) aK)) af se_tup) se_tup) se_tup) se_tup)) (ap aS (ap cK (pv 6) ad) ad));exact(aJ (pv 3))
 x_go;have lo:=dok.lo;have nl:1<=ns.length:=List.length_pos_iff.mpr ne;lk;refine cZ (by rw[Qa];omega) ?_;obtain⟨x,x0,x1,ex⟩:=oO dok n0;refine bh (SqL.of hd) ex ?_;lk;refine{⋯,⋯,?_};have h4:(x % 5).toNat<=4:=by omega
 have hq0:∃n:Int,H qa=-.lst [.int n]:=⟨n0,hq⟩;let I15:IvF:=λi U H'=>∃v' r' x4 x5 x6 x7,U=[-.ref da,-.ref qa,-.ref l,-v',x4,x5,x6,x7]/\RAt H' v' r'/\r'.ok ns/\r'.dep<=6+i/\KpP qa H H';refine dO I15 {v,r,_,_,_,_,rfl,hv,rok,rd,KpP.of hq0 (ao.refl _)} (λi U H' hi pv=>?_) (λU H' pv=>?_)
 ·obtain⟨v',r',x4,x5,x6,x7,rfl,hv',rok',rd',kp⟩:=pv;obtain⟨n1,hq1⟩:=kp.at';have hd1:=kp.ints hq0 dok hd;have hl1:=kp.strs hq0 hl;refine au ?_;lk;generalize hE:upd H' qa _=H1;have kp1:KpP qa H' H1:={λb o e nb=>by rw[<-hE,am nb];exact e,n1+1,by rw[<-hE];exact ae};have hq2:H1 qa=-.lst [.int (n1+1)]:=by rw[<-hE];exact ae
  clear hE;have hqe:∃n:Int,H' qa=-.lst [.int n]:=⟨n1,hq1⟩;have hd2:=kp1.ints hqe dok hd1;have hl2:=kp1.strs hqe hl1;have hv2:=hv'.mono (kp1.tups hqe);lk;refine cZ (by rw[Qa];omega) ?_;obtain⟨y,y0,y1,ey⟩:=oO dok (n1+1);refine bh (SqL.of hd2) ey ?_;lk;refine cZ (by rw[Qa];omega) ?_;obtain⟨nm,hnm,enm⟩:=t5 ne y;refine bh (SqL.of hl2) enm ?_;lk;refine{by simp[sizeLine],λp0 hp0=>?_};generalize hE:upd H1 p0 _=H2;have S2:ao H1 H2:=by rw[<-hE];exact ag hp0
  have o2:RAt H2 (.ref p0) (.w nm):=by rw[<-hE];exact .w ae
  clear hE;have hv3:=hv2.mono (ao.tups S2);lk;refine{by simp[sizeLine],λp1 hp1=>?_};generalize hE:upd H2 p1 _=H3;have S3:ao H2 H3:=by rw[<-hE];exact ag hp1
  have a1:RAt H3 (.ref p1) (.no r'):=by rw[<-hE];exact .no ae (hv3.mono (ao.tups (ag hp1)))
  clear hE;have hv4:=hv3.mono (ao.tups S3);have o3:=o2.mono (ao.tups S3);lk;refine{by simp[sizeLine],λp2 hp2=>?_};generalize hE:upd H3 p2 _=H4;have S4:ao H3 H4:=by rw[<-hE];exact ag hp2
  have a2:RAt H4 (.ref p2) (.an (.w nm) r'):=by rw[<-hE];exact .an ae (o3.mono (ao.tups (ag hp2))) (hv4.mono (ao.tups (ag hp2)))
  clear hE;have hv5:=hv4.mono (ao.tups S4);have o4:=o3.mono (ao.tups S4);lk;refine{by simp[sizeLine],λp3 hp3=>?_};generalize hE:upd H4 p3 _=H5;have S5:ao H4 H5:=by rw[<-hE];exact ag hp3
  have a3:RAt H5 (.ref p3) (.orr r' (.w nm)):=by rw[<-hE];exact .orr ae (hv5.mono (ao.tups (ag hp3))) (o4.mono (ao.tups (ag hp3)))
  clear hE;have hv6:=hv5.mono (ao.tups S5);have o5:=o4.mono (ao.tups S5);lk;refine{by simp[sizeLine],λp4 hp4=>?_};generalize hE:upd H5 p4 _=H6;have S6:ao H5 H6:=by rw[<-hE];exact ag hp4
  have a4:RAt H6 (.ref p4) (.orr (.w nm) r'):=by rw[<-hE];exact .orr ae (o5.mono (ao.tups (ag hp4))) (hv6.mono (ao.tups (ag hp4)))
  clear hE;lk;refine{by simp[sizeLine],λp5 hp5=>?_};generalize hE:upd H6 p5 _=H7;have S7:ao H6 H7:=by rw[<-hE];exact ag hp5
  have q7:H7 p5=-.lst [.ref p1,.ref p2,.ref p3,.ref p4]:=by rw[<-hE];exact ae
  clear hE;lk;have kp7:KpP qa H H7:=kp.trans (kp1.trans (KpP.of kp1.at' (S2.trans (S3.trans (S4.trans (S5.trans (S6.trans S7)))))));have hr2:y / 11 % 4=0\/y / 11 % 4=1\/y / 11 % 4=2\/y / 11 % 4=3:=by omega
  rcases hr2 with z|z|z|z
  ·rw[z];refine bh (SqL.of q7) (v:=.ref p1) rfl ?_;exact au {_,_,_,_,_,_,rfl,a1.mono (ao.tups (S4.trans (S5.trans (S6.trans S7)))),rok',by simp only[Rl.dep];omega,kp7}
  ·rw[z];refine bh (SqL.of q7) (v:=.ref p2) rfl ?_;exact au {_,_,_,_,_,_,rfl,a2.mono (ao.tups (S5.trans (S6.trans S7))),⟨hnm,rok'⟩,by simp only[Rl.dep];omega,kp7}
  ·rw[z];refine bh (SqL.of q7) (v:=.ref p3) rfl ?_;exact au {_,_,_,_,_,_,rfl,a3.mono (ao.tups (S6.trans S7)),⟨rok',hnm⟩,by simp only[Rl.dep];omega,kp7}
  rw[z];refine bh (SqL.of q7) (v:=.ref p4) rfl ?_;exact au {_,_,_,_,_,_,rfl,a4.mono (ao.tups S7),⟨hnm,rok'⟩,by simp only[Rl.dep];omega,kp7}
 obtain⟨v',r',x4,x5,x6,x7,rfl,hv',rok',rd',kp⟩:=pv;refine bH (te:=bY 3) (D:={ nx:=λx H'=>Q V.non H',rt:=Q }) (ai rfl ?_);exact k v' r' H' hv' rok' ⋯ kp
end
def nth (ns:List Str) (k:Nat):Str:=ns.getD k Str.empty
theorem Bj (hl:ns.length=11) {j:Int} {k:Nat} (e:j=(k:Int)) (hk:k<11):atI (ns.map V.str) j=-.str (nth ns k):=by
 subst e;refine ck ?_;unfold nth;rw[Qi,QU,Qc ⇑(oq0 hl hk)];rfl
theorem yB (nd:ns.Nodup) (hl:ns.length=11) {a b:Nat} (ha:a<11) (hb:b<11) (e:nth ns a=nth ns b):a=b:=by
 unfold nth at e;rw[QU,QU,Qc ⇑(oq0 hl ha),Qc ⇑(oq0 hl hb)]at e;have e1:=List.Nodup.idxOf_getElem nd a ⇑(oq0 hl ha);have e2:=List.Nodup.idxOf_getElem nd b ⇑(oq1 hl ha hb);simp only[Option.getD_some]at e;rw[e,e2]at e1;exact e1.symm
theorem wK {ns:List Str} (nd:ns.Nodup) (hl:ns.length=11):∀{L:List Nat},L.Nodup->(∀k∈L,k<11)->(L.map (nth ns)).Nodup
 | [],_,_=>List.nodup_nil
 | a::L,h,hb=>by
  rw[Q6]at h;rw[QN,Q6];refine{λz=>?_,wK nd hl h.2 λk hk=>hb k (Qx _ hk)};obtain⟨b,hb',e⟩:=Qj.mp z;have:=yB nd hl (hb b (Qx _ hb')) (hb a (by simp)) e;exact h.1 (this▸hb')
theorem kG (nd:ns.Nodup) (hl:ns.length=11) {I G:List Nat} {R:Nat->Rl} (hn:(I++G).Nodup) (hb:∀k∈I++G,k<11) (i4:I.length<=4) (g1:1<=G.length) (g7:G.length<=7)
  (hr:∀g∈G,(R g).ok ((I++G).map (nth ns))/\(R g).dep<=10):NetOk (I.map (nth ns)) (G.map λg=>(nth ns g,R g)):=by
 have ew:aq (I.map (nth ns)) (G.map λg=>(nth ns g,R g))=(I++G).map (nth ns):=by
  unfold aq;rw[Qp,QR];rfl
 refine{by rw[ew];exact wK nd hl hn hb,by rw[Qa];exact i4,by rw[Qa];exact g1,by rw[Qa];exact g7,λg hg=>?_};obtain⟨k,hk,rfl⟩:=Qj.mp hg;rw[ew];exact hr k hk
def wN (ns:List Str) (k:Nat):Rl:=.w (nth ns k)
def R5 (ns:List Str) (k:Nat):Rl:=.orr (.an (wN ns (k-1)) (.no (wN ns (k+1)))) (.an (wN ns k) (.orr (wN ns (k-1)) (.no (wN ns (k+1)))))
def R6 (ns:List Str) (m k:Nat):Rl:=.no (wN ns ((k+1) % m))
def R7 (ns:List Str) (k:Nat):Rl:=if k=2 then .no (.orr (wN ns 0) (wN ns 3)) else if k=3 then .no (.orr (wN ns 1) (wN ns 2)) else .an (wN ns (k-2)) (wN ns (k-1))
def pH:Sp:=λvs H Q _=>∃(way:Int) (m:Nat) (l:Addr) (ns:List Str),vs=[.int way,.int m,.ref l]/\1<=m/\m<=7/\H l=-.lst (ns.map V.str)/\ns.length=11/\ns.Nodup /\
 ∀a li lg ins gvs gs H',ao H H'->NAt H' a li lg ins gvs gs->NetOk ins gs->Q (.ref a) H'
theorem jo {L:List Nat} {k:Nat} (h:k∈L):(wN ns k).ok (L.map (nth ns)):=List.mem_map_of_mem h
theorem IY (nd:ns.Nodup) (hl:ns.length=11) (m1:1<=m) (m7:m<=7):NetOk ([0,m+1].map (nth ns)) (((List.range m).map (·+1)).map λg=>(nth ns g,R5 ns g)):=by
 have h1:∀m,m<=7->1<=m->([0,m+1]++(List.range m).map (·+1)).Nodup/\(∀k∈[0,m+1]++(List.range m).map (·+1),k<11)/\∀g∈(List.range m).map (·+1),g-1∈[0,m+1]++(List.range m).map (·+1)/\g∈[0,m+1]++(List.range m).map (·+1)/\g+1∈[0,m+1]++(List.range m).map (·+1):=by decide
 obtain⟨a,b,c⟩:=h1 m m7 m1;refine kG nd hl a b (by show 2<=4;decide) (by simp;exact oq2 m1) (by simp;exact oq3 m7) λg hg=>?_;obtain⟨c1,c2,c3⟩:=c g hg;exact{ { {jo c1,jo c3},{jo c2,{jo c1,jo c3} } },by simp[R5,wN,Rl.dep]}
theorem IX (nd:ns.Nodup) (hl:ns.length=11) (m1:1<=m) (m7:m<=7):NetOk (([]:List Nat).map (nth ns)) ((List.range m).map λg=>(nth ns g,R6 ns m g)):=by
 refine kG nd hl (~~~List.nodup_range) (λk hk=>by simp at hk;exact oq4 m1 m7 hk) (by decide) (by simp;exact oq2 m1) (by simp;exact oq3 m7) λg hg=>?_;refine{jo ?_,by simp[R6,wN,Rl.dep]};simp;exact Nat.mod_lt _ ⇑(oq5 m1 m7)
theorem IW (nd:ns.Nodup) (hl:ns.length=11) (j3:j<=3):NetOk ([0,1].map (nth ns)) (([2,3]++(List.range j).map (4+·)).map λg=>(nth ns g,R7 ns g)):=by
 have h1:∀j,j<=3->([0,1]++([2,3]++(List.range j).map (4+·))).Nodup/\(∀k∈[0,1]++([2,3]++(List.range j).map (4+·)),k<11)/\∀g∈[2,3]++(List.range j).map (4+·),g-1∈[0,1]++([2,3]++(List.range j).map (4+·))/\g-2∈[0,1]++([2,3]++(List.range j).map (4+·)):=by decide
 obtain⟨a,b,c⟩:=h1 j j3;refine kG nd hl a b (by decide) (by simp) (by simp;exact oq6 j3) λg hg=>?_;obtain⟨c1,c2⟩:=c g hg;unfold R7
 split
 ·exact{ {jo (by simp),jo (by simp)},by simp[wN,Rl.dep]}
 split
 ·exact{ {jo (by simp),jo (by simp)},by simp[wN,Rl.dep]}
 exact{ {jo c2,jo c1},by simp[wN,Rl.dep]}
theorem yM {n:Str} {r:Rl} (h:H b=-.tup [.str n,v]) (hr:RAt H v r):GAt H (.ref b) (n,r):=⟨b,v,rfl,h,hr⟩
def Mkx (H0:Hp) (U:St) (te:TE) (R:Hp->V->Prop):Prop:=∀(H:Hp) (Q:VK),ao H0 H->(∀v H',ao H H'->R H' v->Q v H')->te U H Q
section
variable {K:PySem.W.Frag} {H0:Hp} {U:St} {t t1 t2 t3:TE} {r r1 r2 r3:Rl} {x:Str}
theorem gG {i k:Nat} {l:Addr} {ns:List Str} {ti:TE} {j:Int} (hσ:U[i]?=- -.ref l) (hl:H0 l=-.lst (ns.map V.str)) (ln:ns.length=11) (hk:k<11) (hi:∀(H:Hp) (Q:VK),Q (.int j) H->ti U H Q) (ej:j=(k:Int)) :
  Mkx H0 U (tOp (rh K) (bY i) ti) λ_ v=>v=.str (nth ns k):=λH Q S q=>aO (ai hσ (hi H _ (bh (SqL.of (S _ _ hl)) (Bj ln ej hk) (q _ _ (ao.refl _) rfl))))
variable {R1 R R':Hp->V->Prop}
theorem oh {R2:Hp->V->Prop} (k1:∀{H H':Hp} {v},ao H H'->R1 H v->R1 H' v) (k2:∀{H H':Hp} {v},ao H H'->R2 H v->R2 H' v) (h1:Mkx H0 U t1 R1) (h2:Mkx H0 U t2 R2) :
  Mkx H0 U (nr (bp t1 (bp t2 eL))) λH v=>∃b u w,v=.ref b/\H b=-.tup [u,w]/\R1 H u/\R2 H w:=λH Q S q=>i_tup (ak (h1 H _ S λu H1 S1 a1=>ak (h2 H1 _ (S.trans S1) λw H2 S2 a2=>aB {by simp[sizeLine],λp hp=>by
 have S3:=ag (o:=.tup [u,w]) hp
 exact q _ _ (S1.trans (S2.trans S3)) {p,u,w,rfl,ae,k1 (S2.trans S3) a1,k2 S3 a2} })))
theorem wL {c:V}:Mkx H0 U (tC c) λ_ v=>v=c:=λH Q S q=>i_c (q _ _ (ao.refl _) rfl)
theorem rM (h:Mkx H0 U t R) (f:∀{H v},R H v->R' H v):Mkx H0 U t R':=λH Q S q=>h H Q S λv H' S' a=>q v H' S' (f a)
theorem lY (h:Mkx H0 U t λ_ v=>v=.str x):Mkx H0 U (nr (bp (tC (.str "wire")) (bp t eL))) λH v=>RAt H v (.w x) :=
 rM (oh (λ_ e=>e) (λ_ e=>e) wL h) λ⟨b,u,w,e,hb,e1,e2⟩=>by subst e e1 e2;exact .w hb
theorem tz (h:Mkx H0 U t λH v=>RAt H v r):Mkx H0 U (nr (bp (tC (.str "not")) (bp t eL))) λH v=>RAt H v (.no r) :=
 rM (oh (λ_ e=>e) (λS e=>e.mono (ao.tups S)) wL h) λ⟨b,u,w,e,hb,e1,e2⟩=>by subst e e1;exact .no hb e2
theorem qr (h1:Mkx H0 U t1 λ_ v=>v=.str x) (h:Mkx H0 U t λH v=>RAt H v r):Mkx H0 U (nr (bp t1 (bp t eL))) λH v=>GAt H v (x,r) :=
 rM (oh (λ_ e=>e) (λS e=>e.mono (ao.tups S)) h1 h) λ⟨b,u,w,e,hb,e1,e2⟩=>by subst e e1;exact yM hb e2
theorem rL {c:Str} (h1:Mkx H0 U t1 λH v=>RAt H v r1) (h2:Mkx H0 U t2 λH v=>RAt H v r2) (f:∀{H:Hp} {b:Addr} {u w:V},H b=-.tup [.str c,u,w]->RAt H u r1->RAt H w r2->RAt H (.ref b) r) :
  Mkx H0 U (nr (bp (tC (.str c)) (bp t1 (bp t2 eL)))) λH v=>RAt H v r:=λH Q S q=>i_tup (ak (i_c (ak (h1 H _ S λu H1 S1 a1=>ak (h2 H1 _ (S.trans S1) λw H2 S2 a2=>aB {by simp[sizeLine],λp hp=>by
 have S3:=ag (o:=.tup [.str c,u,w]) hp
 exact q _ _ (S1.trans (S2.trans S3)) (f ae (a1.mono (ao.tups (S2.trans S3))) (a2.mono (ao.tups S3)))})))))
theorem yC (h1:Mkx H0 U t1 λH v=>RAt H v r1) (h2:Mkx H0 U t2 λH v=>RAt H v r2) (h3:Mkx H0 U t3 λH v=>RAt H v r3):Mkx H0 U (i8 rb [] E0 (bp t1 (bp t2 (bp t3 eL)))) λH v=>RAt H v (.orr (.an r1 r2) (.an r3 (.orr r1 r2))):=λH Q S q =>
 bP (ak (h1 H _ S λu H1 S1 a1=>ak (h2 H1 _ (S.trans S1) λw H2 S2 a2=>ak (h3 H2 _ (S.trans (S1.trans S2)) λy H3 S3 a3=>aB {_,_,_,_,_,_,rfl,a1.mono (ao.tups (S2.trans S3)),a2.mono (ao.tups S3),a3,λv H4 S4 a4=>q _ _ (S1.trans (S2.trans (S3.trans S4))) a4}))))
theorem Bk {i:Nat} {v:V} (hσ:U[i]?=- -v) (h:∀{H},ao H0 H->R H v):Mkx H0 U (bY i) R:=λH Q S q=>ai hσ (q _ _ (ao.refl _) (h S))
end
theorem oB {x:Str × Rl} (hg:H g=-.lst gvs) (hp:Paired (GAt H) gvs gs) (hv:GAt H v x):Paired (GAt (upd H g (.lst (gvs++[v])))) (gvs++[v]) (gs++[x]):=by
 have kt:dH H (upd H g (.lst (gvs++[v]))):=λb xs e=>by rw[am λz=>by rw[z,hg]at e;cases e];exact e
 exact dj (bD kt hp) (hv.mono kt)
section
theorem nJ:FnScope ["way", "many", "names", "gates", "k", "after", "one", "other", "more"] ["way", "many", "names"] (aC (top 37)):=by fin2
theorem uM {f:Addr} {fd:FuncData} (Fu:Fun K "_law_known" "_law_known" (top 37) f fd) (T:Txt K mg TT) (f_law_held:Fn P w K mg base "_law_held" ["one", "other", "own"] 1 rb):FnOk P w K mg base CX0 2 f fd ["way", "many", "names"] pH:=by
 have S:=nJ;w_up;obtain⟨way,m,l,ns,rfl,m1,m7,hl,ln,nd,k⟩:=h;refine'{?_,?bb,?_}
 case bb =>
  walk_at "b";exact(aL cE (pv 0) ad (aN _));exact aF 3 S.nd (aZ af);walk_at "f";exact(ux (by rfl) T.n_range (aa ad (aa (ap aR (pv 1) ad) af) aK));exact(bR 4 S.nd);walk_at "p";refine' aF 5 S.nd ?e
  case e =>
   walk_at "q";exact(aD aH (pv 2) (ap aR (pv 4) ad))
  refine' bJ (cR QH QI QJ be (pv 3) ?a)
  case a =>
   walk_at "q";exact(aD aH (pv 2) (pv 4));exact(a8 f_law_held hr (aa (br (aa aP (aa (aD aH (pv 2) (ap gb (pv 4) ad)) af se_sub) aK)) (aa (pv 5) (aa (br (aa aP (aa (aD aH (pv 2) (pv 4)) af se_sub) aK)) af se_tup) aj) se_tup))
  refine' aJ ?e
  case e =>
   walk_at "q";exact(aD aH (pv 2) ad);exact(aD aH (pv 2) (ap aR (pv 1) ad));exact(pv 3)
  exact(aL cE (pv 0) ad (aN _));refine' aJ ?e
  case e =>
   walk_at "q";exact(dB "k" [("names", 2),("many", 1)] (cA (by rfl) T.n_range (aa (pv 1) af aj)) (λ_ _ _ _=>(br (aa (aD (d5 (K:=K) rfl) (pv 1) (pv 0)) (aa (br (aa aP (aa (br (aa aP (aa (aD (d5 (K:=K) rfl) (pv 1) (ap aS (ap aR (pv 0) ad) (pv 2))) af) aK)) af se_tup) aK)) af se_tup)))))
  refine' aF 6 S.nd ?e
  case e =>
   walk_at "q";exact(aD aH (pv 2) ad);exact(aD aH (pv 2) ad);exact(aD aH (pv 2) ad)
  refine' aF 7 S.nd ?e
  case e =>
   walk_at "q";exact(aD aH (pv 2) ad);exact(aD aH (pv 2) ad);exact(aD aH (pv 2) ad)
  exact aF 8 S.nd (aZ af);walk_at "f";exact(cA (by rfl) T.n_range (aa (aE (m5 rfl) (by rfl) T.n_min PyProof.Rows.boot_min (aa (ap gb (pv 1) ad) (aa ad af aK))) af se_call));exact(bR 4 S.nd);walk_at "p";refine' bJ (cR QH QI QJ be (pv 8) ?a)
  case a =>
   walk_at "q";exact(aD aH (pv 2) (ap aR ad (pv 4)));exact(aD aH (pv 2) (ap aR ad (pv 4)));exact(aD aH (pv 2) (ap aR ad (pv 4)))
  refine' aJ ?e
  case e =>
   walk_at "q";exact(a9 cq (pv 2) bu (bt ad));exact(ap cu (aZ (aa (pv 6) (aa (pv 7) af aj) aj)) (pv 8))
 x_go;have ic:∀{U:St} {c:Int} (H:Hp) (Q:VK),Q (.int c) H->tC (.int c) U H Q:=λ_ _ q=>i_c q;lk;refine fv (λ_=>?_) (λ_=>?_)
 ·kt_k;refine bj (cw (aB {by decide,λg hg=>au ?_}));ctx_has H g H1 S1 q1 aI hg;kt_k;refine s_for (ak (i_c (ak (aO (ai rfl (i_c (b_ (aB {1,(m:Int)+1,rfl,{⋯,⋯,⋯,⋯},?_}))))))));rw[show ((m:Int)+1-1).toNat=m from ⋯];let I16:IvF:=λi U H'=>(∃x4 x5 gvs,U=[-.int way,-.int m,-.ref l,-.ref g,x4,x5,none,none,none]/\H' g=-.lst gvs/\Paired (GAt H') gvs (((List.range i).map (·+1)).map λk=>(nth ns k,R5 ns k)))/\ao H H';refine dO (n:=m) I16 { {_,_,[],rfl,q1,.nil},S1} (λi U H' hi pv=>?_) (λU H' pv=>?_)
  ·obtain⟨⟨x4,x5,gvs,rfl,hg',hp'⟩,SS⟩:=pv;have hl':=SS _ _ hl;have gl:=aU hp';rw[Qa,Qa,List.length_range]at gl;have iv:∀{U:St} (H:Hp) (Q:VK),U[4]?=- -.int (1+(i:Int))->Q (.int (1+(i:Int))) H->bY 4 U H Q:=λ_ _ e q=>ai e q;refine au ?_;kt_k;refine bj (tz (lY (gG (k:=i+2) rfl hl' ln ⇑(Hi m1 m7 hi gl) (λH Q q=>aO (ai rfl (i_c (b_ q)))) ⋯)) H' _ (ao.refl _) λav H2 S2 a2=>au ?_);have hl2:=S2 _ _ hl';have hg2:=S2 _ _ hg';refine s_drop (i_bm (ai rfl {i_tyL hg2,ak (qr (gG (k:=i+1) rfl hl2 ln ⇑(Ca m1 m7 hi gl) (λH Q q=>ai rfl q) ⋯) (yC (lY (gG (k:=i) rfl hl2 ln ⇑(B_ m1 m7 hi gl) (λH Q q=>aO (ai rfl (i_c (b_ q)))) ⋯)) (Bk rfl λS=>a2.mono (ao.tups S)) (lY (gG (k:=i+1) rfl hl2 ln ⇑(Ca m1 m7 hi gl) (λH Q q=>ai rfl q) ⋯))) H2 _ (ao.refl _) λv H3 S3 ga=>aB (d9 (S3 _ _ hg2) ⇑(B9 m1 m7 (by decide) hi gl) ?_))}));refine{ {_,_,gvs++[v],rfl,ae,?_},aQ (SS.trans (S2.trans S3)) hg};rw[List.range_succ,Qp,Qp];exact oB (S3 _ _ hg2) (bD (ao.tups (S2.trans S3)) hp') ga
  obtain⟨⟨x4,x5,gvs,rfl,hg',hp'⟩,SS⟩:=pv;have hl':=SS _ _ hl;refine bH (i_tup (ak (cw (ak (gG (k:=0) rfl hl' ln ⋯ ic rfl H' _ (ao.refl _) λv H2 S2 e2=>ak (gG (k:=m+1) rfl (S2 _ _ hl') ln ⇑(Hh m1 m7) (λH Q q=>aO (ai rfl (i_c (b_ q)))) ⋯ H2 _ (ao.refl _) λv3 H3 S3 e3=>aB {by simp[sizeLine],λp1 hp1=>?_}))))));subst e2 e3;ctx_has H3 p1 H4 S4 q4 aI hp1;refine ak (ai rfl (aB {by simp[sizeLine],λp2 hp2=>?_}));have S5:=ag (o:=.tup [.ref p1,.ref g]) hp2;have S25:=S2.trans (S3.trans (S4.trans S5));exact k p2 p1 g ([0,m+1].map (nth ns)) gvs _ _ (SS.trans S25) {ae,S5 _ _ q4,S25 _ _ hg',bD (ao.tups S25) hp'} (IY nd ln m1 m7)
 lk;refine fv (λ_=>?_) (λ_=>?_)
 ·refine bH (i_tup (ak (cw (aB {by decide,λp0 hp0=>ak (bS (s_rng1 (ak (ai rfl (aB {_,rfl,⋯,⋯,λD hD=>?_})))))}))));rw[Xq];generalize hE:upd H p0 _=H1 at *;obtain⟨S1,q1⟩:=aI hp0 hE;clear hE;have hl1:=S1 _ _ hl;let I17:IvC:=λn H2 ys=>ao H1 H2/\H2 D=-.lst ys/\Paired (GAt H2) ys ((List.range n).map λk=>(nth ns k,R6 ns m k));refine fK (n:=m) I17 {ag hD,ae,.nil} (λn H2 ys p=>p.2.1) (λn H2 ys hn p=>?_) (λH2 ys p=>?_)
  ·obtain⟨S2,h2,hp2⟩:=p;have gl:=aU hp2;rw[Qa,List.length_range]at gl;have hmod:(n+1) % m<m:=Nat.mod_lt _ ⇑(oq5 m1 m7);refine au {⟨rfl,rfl,trivial⟩,i_yes (ce ?_)};have hl2:=S2 _ _ hl1;refine qr (gG (k:=n) rfl hl2 ln ⇑(B_ m1 m7 hn gl) (λH Q q=>ai rfl q) ⋯) (tz (lY (gG (k:=(n+1) % m) rfl hl2 ln ⇑(Hg m1 m7 hmod) (λH Q q=>aO (aO (ai rfl (i_c (b_ (ai rfl (cZ (by show (0:Int)<(m:Int);omega) q))))))) (by rw[show (0:Int)+(n:Int)+1=((n+1:Nat):Int) from ⋯];exact(Int.natCast_emod _ _).symm)))) H2 _ (ao.refl _) λv H3 S3 ga=>?_;refine b9.mk (S3 _ _ h2) hn ⇑(B9 m1 m7 (by decide) hn gl) {aQ (S2.trans S3) hD,ae,?_};rw[List.range_succ,Qp];exact oB (S3 _ _ h2) (bD (ao.tups S3) hp2) ga
  obtain⟨S2,h2,hp2⟩:=p;refine aB {by simp[sizeLine],λp3 hp3=>?_};have S3:=ag (o:=.tup [.ref p0,.ref D]) hp3;exact k p3 p0 D (([]:List Nat).map (nth ns)) _ _ _ (S1.trans (S2.trans S3)) {ae,(S2.trans S3) _ _ q1,S3 _ _ h2,bD (ao.tups S3) hp2} (IX nd ln m1 m7)
 have nmK:∀{U:St} {H1:Hp} (k:Nat),U[2]?=- -.ref l->ao H H1->k<11->Mkx H1 U (tOp (rh K) (bY 2) (tC (.int (k:Int)))) λ_ v=>v=.str (nth ns k):=λk e S hk=>gG e (S _ _ hl) ln hk ic rfl;kt_k;kt_k;refine bj (qr (nmK 2 rfl (ao.refl _) (by decide)) (tz (rL (r:=.orr (wN ns 0) (wN ns 3)) (lY (nmK 0 rfl (ao.refl _) (by decide))) (lY (nmK 3 rfl (ao.refl _) (by decide))) .orr)) H _ (ao.refl _) λv1 J1 U1 g1=>au ?_);kt_k;refine bj (qr (nmK 3 rfl U1 (by decide)) (tz (rL (r:=.orr (wN ns 1) (wN ns 2)) (lY (nmK 1 rfl U1 (by decide))) (lY (nmK 2 rfl U1 (by decide))) .orr)) J1 _ (ao.refl _) λv2 J2 U2 g2=>au ?_);kt_k;refine bj (cw (aB {by simp[sizeLine],λb10 hb10=>au ?_}));have V2:=U1.trans U2;have mH:H b10=none:=ao.free V2 hb10;ctx_has J2 b10 J3 U3 u3 aI hb10;have V3:=V2.trans U3
 obtain⟨j,ej,j3⟩:∃j:Nat,(if (3:Int)<(m:Int)-1 then (3:Int) else (m:Int)-1)=(j:Int)/\j<=3:=by
  by_cases h:(3:Int)<(m:Int)-1
  ·rw[QF h];exact{3,rfl,⋯}
  rw[QE h];exact{m-1,⋯,⋯}
 kt_k;refine s_for (s_rng1 (ak (c7 (ak (aO (ai rfl (i_c (b_ (ak (i_c (aB {_,_,rfl,aB {j,by rw[<-ej],⋯,⋯,?_} })))))))))));rw[Xq];have kt3:dH J3 J3:=λb xs e=>e;let I18:IvF:=λi U H'=>(∃x4 gvs,U=[-.int way,-.int m,-.ref l,none,x4,none,-v1,-v2,-.ref b10]/\H' b10=-.lst gvs/\Paired (GAt H') gvs (((List.range i).map (4+·)).map λk=>(nth ns k,R7 ns k)))/\ao H H'/\dH J3 H';refine dO (n:=j) I18 { {_,[],rfl,u3,.nil},V3,kt3} (λi U H' hi pv=>?_) (λU H' pv=>?_)
 ·obtain⟨⟨x4,gvs,rfl,hg',hp'⟩,SS,kt0⟩:=pv;have hl':=SS _ _ hl;have gl:=aU hp';rw[Qa,Qa,List.length_range]at gl;refine au ?_;have nmI:∀{U:St} (c:Nat),U[2]?=- -.ref l->U[4]?=- -.int (0+(i:Int))->c+i<11->Mkx H' U (tOp (rh K) (bY 2) (tOp (rI0 λa b=>.int (a+b)) (tC (.int (c:Int))) (bY 4))) λ_ v=>v=.str (nth ns (c+i)):=λc e1 e2 hk=>gG e1 hl' ln hk (λH Q q=>aO (i_c (ai e2 (b_ q)))) ⋯
  have e7:R7 ns (4+i)=.an (wN ns (2+i)) (wN ns (3+i)):=by
   unfold R7;rw[QE ⇑(He gl),QE ⇑(Hd gl),show 4+i-2=2+i from by exact G_ gl,show 4+i-1=3+i from by exact G9 gl]
  refine s_drop (i_bm (ai rfl {i_tyL hg',ak (qr (nmI 4 rfl rfl ⇑(G8 j3 hi gl)) (rL (r:=.an (wN ns (2+i)) (wN ns (3+i))) (lY (nmI 2 rfl rfl ⇑(G7 j3 hi gl))) (lY (nmI 3 rfl rfl ⇑(G6 j3 hi gl))) .an) H' _ (ao.refl _) λv H3 S3 ga=>aB (d9 (S3 _ _ hg') ⇑(G0 (by decide) j3 hi gl) ?_))}));have hg3:=S3 _ _ hg';refine{ {_,gvs++[v],rfl,ae,?_},aQ (SS.trans S3) mH,λb xs e=>by rw[am λz=>by have:=S3 _ _ (kt0 b xs e);rw[z,hg3]at this;cases this];exact S3 _ _ (kt0 b xs e)};rw[List.range_succ,Qp,Qp];refine oB hg3 (bD (ao.tups S3) hp') ?_;show GAt _ _ (nth ns (4+i),R7 ns (4+i));rw[e7];exact ga
 obtain⟨⟨x4,gvs,rfl,hg',hp'⟩,SS,kt0⟩:=pv;have hl':=SS _ _ hl;have gl:=aU hp';rw[Qa,Qa,List.length_range]at gl
 try dsimp only
 refine bH (i_tup (ak (i_sl (ai rfl (i_nopart (i_part (i_c {_,rfl,jg (SqL.of hl') λp1 hp1=>?_})))))))
 have ec:fS (ns.map V.str) none (-2)=([0,1].map (nth ns)).map V.str:=by
  have l2:2<=(ns.map V.str).length:=by rw[Qa,ln];decide
  unfold fS;rw[show (-(2:Int))=-((2:Nat):Int) from rfl,HT.nP,HT.ki,Nat.min_eq_left l2,List.drop_zero,Nat.sub_zero];clear l2
  cases ns with
  | nil=>cases ln
  | cons a r =>
  cases r with
  | nil=>cases ln
  | cons b r=>rfl
 rw[ec];ctx_has H' p1 H2 S2 q2 aI hp1;refine ak (aO (cw (ak (ai rfl (ak (ai rfl (aB {by simp[sizeLine],λp2 hp2=>?_})))))));ctx_has H2 p2 H3 S3 q3 aI hp2;refine ai rfl (gL q3 ((S2.trans S3) _ _ hg') (by simp;exact GZ (by decide) j3 gl) λp3 hp3=>aB {by simp[sizeLine],λp4 hp4=>?_});generalize hE:upd H3 p3 _=H4 at *;obtain⟨S4,q4⟩:=aI hp3 hE;clear hE;have S5:=ag (o:=.tup [.ref p1,.ref p3]) hp4;have S25:=S2.trans (S3.trans (S4.trans S5));have kt5:dH J2 (upd H4 p4 (.tup [.ref p1,.ref p3])):=λb xs e=>ao.tups S25 b xs (kt0 b xs (U3 _ _ e));refine k p4 p1 p3 ([0,1].map (nth ns)) _ _ _ (SS.trans S25) {ae,(S3.trans (S4.trans S5)) _ _ q2,S5 _ _ q4,?_} (IW nd ln j3);exact .cons ((g1.mono (ao.tups U2)).mono kt5) (.cons (g2.mono kt5) (bD (ao.tups S25) hp'))
end
theorem xu {xs:List V} {a:Nat} (h:a<=xs.length):fS xs (-(a:Int)) none=xs.drop a:=by
 unfold fS;rw[HT.nP,HT.ki,Nat.min_eq_left h,Qw (by rw[Q5];exact Ch)]
theorem xr {xs:List V} {a:Nat} (h:a<=xs.length):fS xs none (-(a:Int))=xs.take a:=by
 unfold fS;rw[HT.nP,HT.ki,Nat.min_eq_left h];simp
def vK:Sp:=λvs H Q _=>∃(d:Addr) (ds:List Int) (spot:Int),vs=[.ref d,.int spot]/\H d=-.lst (ds.map V.int)/\DOk ds/\0<=spot/\spot<=100 /\
 ∀a li lg ins gvs gs H',ao H H'->NAt H' a li lg ins gvs gs->NetOk ins gs->Q (.ref a) H'
theorem sY (h:∀n,n<vs.length->∃m:Nat,1<=m/\m<=B/\vs[n]?=-.int (m:Int)) {i:Int} (h0:0<=i) (h1:i<vs.length):∃m:Nat,1<=m/\m<=B/\atI vs i=-.int (m:Int):=by
 obtain⟨n,rfl⟩:=Int.eq_ofNat_of_zero_le h0;obtain⟨m,a,b,e⟩:=h n (Int.ofNat_lt.mp h1);exact{m,a,b,ck e}
theorem zB {ms:List Nat} (h:∀m∈ms,1<=m/\m<=B) (n:Nat) (hn:n<(ms.map λm:Nat=>V.int (m:Int)).length):∃m:Nat,1<=m/\m<=B/\(ms.map λm:Nat=>V.int (m:Int))[n]?=-.int (m:Int):=by
 rw[Qa]at hn;obtain⟨a,b⟩:=h _ (Xo hn);exact{ms[n],a,b,by rw[Qi,Qc hn];rfl}
theorem B3 {i:Int} (h0:0<=i) (h1:i<9):∃m:Nat,1<=m/\m<=7/\atI [V.int 1,V.int 2,V.int 2,V.int 3,V.int 3,V.int 4,V.int 5,V.int 6,V.int 7] i=-.int (m:Int) :=
 sY (zB (ms:=[1,2,2,3,3,4,5,6,7]) (by decide)) h0 h1
theorem B4 {i:Int} (h0:0<=i) (h1:i<5):∃m:Nat,1<=m/\m<=6/\atI [V.int 2,V.int 3,V.int 3,V.int 3,V.int 6] i=-.int (m:Int) :=
 sY (zB (ms:=[2,3,3,3,6]) (by decide)) h0 h1
theorem cS (hp:H2 p=none) (e:upd H2 p o=H3):ao H2 H3/\H3 p=-o:=by subst e;exact{ag hp,ae}
section
theorem rf:FnScope ["d", "spot", "names", "way", "many", "inputs", "deep", "pos", "some", "gates", "name", "rule"] ["d", "spot"] (aC (top 39)):=by fin2
theorem yq {f:Addr} {fd:FuncData} (Fu:Fun K "_law_net" "_law_net" (top 39) f fd) (T:Txt K mg TT) (f_law_names:Fn P w K mg base "_law_names" ["d", "spot"] 1 pF) (f_law_known:Fn P w K mg base "_law_known" ["way", "many", "names"] 2 pH)
  (f_law_rule:Fn P w K mg base "_law_rule" ["d", "pos", "names", "deep"] 11 (jw 10)) (f_law_deeper:Fn P w K mg base "_law_deeper" ["d", "pos", "names", "rule"] 1 jU):FnOk P w K mg base CX0 12 f fd ["d", "spot"] vK:=by
 have S:=rf;w_up;obtain⟨d,ds,spot,rfl,hd,dok,sp0,sp1,k⟩:=h;refine'{?_,?bb,?_}
 case bb =>
  walk_at "b";exact aF 2 S.nd (a8 f_law_names hr (aa (pv 0) (aa (pv 1) af aj) aj));exact aF 3 S.nd (ap aS (aD aH (pv 0) (ap aR (pv 1) ad)) ad);exact aF 4 S.nd (aD aH (aZ (aa ad (aa ad (aa ad (aa ad (aa ad (aa ad (aa ad (aa ad (aa ad af aK) aK) aK) aK) aK) aK) aK) aK) aK)) (ap aS (aD aH (pv 0) (ap aR (pv 1) ad)) ad));exact(aL zT (pv 3) ad (aN _));exact(aJ (a8 f_law_known hr (aa (pv 3) (aa (pv 4) (aa (pv 2) af aj) aj) aj)));exact(aL cE (pv 3) ad (aN _));exact aF 4 S.nd (aE (m5 rfl) (by rfl) T.n_min PyProof.Rows.boot_min (aa (pv 4) (aa ad af aK) aj));exact aF 5 S.nd (ap aS (aD aH (pv 0) (ap aR (pv 1) ad)) ad);exact aF 6 S.nd (aD aH (aZ (aa ad (aa ad (aa ad (aa ad (aa ad af aK) aK) aK) aK) aK)) (pv 3));exact aF 7 S.nd (aZ (aa (ap aR (pv 1) ad) af));exact aF 8 S.nd (a9 cq (pv 2) bu (bt (ap aR (pv 5) (pv 4))));exact aF 9 S.nd (aZ af);walk_at "f";exact(bw (a9 cq (pv 8) (bt (pv 5)) bu));exact(bR 10 S.nd);walk_at "p";exact aF 11 S.nd (a8 f_law_rule hr (aa (pv 0) (aa (pv 7) (aa (pv 8) (aa (pv 6) af aj) aj) aj) aj));exact(PW.pt (n5 (aL cE (pv 3) ad (aN _)) (jz (aL cE (aE aM (by rfl) T.n_len QL (aa (pv 9) af aj)) (ap aS (ap cK (aD aH (pv 0) (ap aR (pv 1) ad)) ad) (pv 4)) (aN _)))));exact aF 11 S.nd (a8 f_law_rule hr (aa (pv 0) (aa (pv 7) (aa (pv 8) (aa ad af aK) aj) aj) aj));exact(PW.pt (fj (aL cE (pv 3) ad (aN _)) (eP (PW.pt (n5 (aL cE (pv 3) ad (aN _)) (jz (aL cE (aE aM (by rfl) T.n_len QL (aa (pv 9) af aj)) (ap aS (ap cK (aD aH (pv 0) (ap aR (pv 1) ad)) ad) (pv 4)) (aN _))))))));exact aF 11 S.nd (a8 f_law_deeper hr (aa (pv 0) (aa (pv 7) (aa (pv 8) (aa (pv 11) af aj) aj) aj) aj));refine' bJ (cR QH QI QJ be (pv 9) ?a)
  case a =>
   walk_at "q";exact(pv 10);exact(pv 11)
  exact(aJ (br (aa (a9 cq (pv 2) bu (bt (pv 5))) (aa (pv 9) af aj))))
 x_go;lk;refine{d,ds,spot,rfl,hd,dok,⋯,⋯,λl ns H1 S1 nl ln nd hl=>?_};have hd1:=S1 _ _ hd;lk;obtain⟨w0,_,_,ew⟩:=cM dok (i:=spot+2) ⋯ ⋯;refine bh (SqL.of hd1) ew ?_;lk;refine{by simp[sizeLine],λp0 hp0=>?_};ctx_has H1 p0 H2 S2 q2 cS hp0;have hd2:=S2 _ _ hd1;lk;obtain⟨y0,_,_,ey⟩:=cM dok (i:=spot+3) ⋯ ⋯;refine bh (SqL.of hd2) ey ?_;lk;obtain⟨m,m1,m7,em⟩:=B3 (i:=y0 % 9) ⋯ ⋯;refine bh (SqL.of q2) em ?_;have hl2:=S2 _ _ hl;have wb0:0<=w0 % 8:=by omega
 have wb1:w0 % 8<8:=by omega
 generalize w0 % 8=way at *;lk;refine fv (λ_=>?_) (λhw4=>?_)
 ·lk;exact{way,m,l,ns,rfl,m1,m7,hl2,ln,nd,λa li lg ins gvs gs H' S' NA ok=>k a li lg ins gvs gs H' (S1.trans (S2.trans S')) NA ok}
 have hw5:way<=4:=by simpa using hw4
 kt_k;let I19:IvJ:=λU H'=>∃m:Nat,1<=m/\m<=7/\U=[-.ref d,-.int spot,-.ref l,-.int way,-.int (m:Int),none,none,none,none,none,none,none]/\H'=H2;with_reducible refine de I19 (λR hR=>?_) (λσ6 H6 j6=>?_)
 ·lk;refine fv (λ_=>?_) (λ_=>hR _ _ ⟨m,m1,m7,rfl,rfl⟩);lk;refine{_,_,rfl,?_};by_cases h3:(3:Int)<(m:Int)
  ·rw[QF h3];exact au (hR _ _ {3,⋯,⋯,rfl,rfl})
  rw[QE h3];exact au (hR _ _ ⟨m,m1,m7,rfl,rfl⟩)
 clear em m1 m7 m;obtain⟨m,m1,m7,rfl,e6⟩:=j6;have e6':=e6.symm;subst e6';clear e6;lk;obtain⟨z0,zb0,_,ez⟩:=cM dok (i:=spot+4) ⋯ ⋯;refine bh (SqL.of hd2) ez ?_;lk;obtain⟨I,eI,I4⟩:∃I:Nat,z0 % 5=(I:Int)/\I<=4:={(z0 % 5).toNat,⋯,⋯};rw[eI];refine{by simp[sizeLine],λp1 hp1=>?_};ctx_has H2 p1 H3 S3 q3 cS hp1;lk;obtain⟨dp,dp1,dp6,edp⟩:=B4 (i:=way) ⋯ ⋯;refine bh (SqL.of q3) edp ?_;lk;refine{by show 1<=sizeLine;decide,λqa hqa=>?_};ctx_has H3 qa H4 S4 q4 cS hqa;have S24:=S3.trans S4;have hl4:=S24 _ _ hl2;have hd4:=S24 _ _ hd2;lk;have lns:(ns.map V.str).length=11:=by rw[Qa];exact ln
 rw[show (I:Int)+(m:Int)=((I+m:Nat):Int) from ⋯];refine jg (SqL.of hl4) λso hso=>?_;rw[xr (by rw[lns];omega),<-List.map_take];ctx_has H4 so H5 S5 q5 cS hso;have lts:(ns.take (I+m)).length=I+m:=by rw[Qt];omega
 have nds:(ns.take (I+m)).Nodup:=nd.sublist (List.take_sublist _ _);generalize eTS:ns.take (I+m)=ts at *;have tne:ts≠[]:=λz=>by rw[z]at lts;simp at lts;omega
 lk;refine{by decide,λg hg=>?_};ctx_has H5 g H6 S6 q6 cS hg;lk;have lts':(ts.map V.str).length=I+m:=by rw[Qa];exact lts
 refine jg (SqL.of (S6 _ _ q5)) λq hq=>?_;rw[xu (by rw[lts'];exact zE m1 m7 lts lts'),<-List.map_drop];ctx_has H6 q H7 S7 q7 cS hq;have S47:=S5.trans (S6.trans S7);have SS7:ao H H7:=S1.trans (S2.trans (S24.trans S47));have gH:H g=none:=ao.free (S1.trans (S2.trans (S24.trans S5))) hg;have qaH:H qa=none:=ao.free (S1.trans (S2.trans S3)) hqa;have nqg:g≠qa:=λz=>by rw[z]at hg;rw[(S5 _ _ q4)]at hg;cases hg
 refine{q,rfl,{_,SqL.of q7},?_};let I20:IvF:=λj U H'=>∃x10 x11 gvs gs,U=[-.ref d,-.int spot,-.ref l,-.int way,-.int (m:Int),-.int (I:Int),-.int (dp:Int),-.ref qa,-.ref so,-.ref g,x10,x11]/\gs.map (·.1)=(ts.drop I).take j/\gs.length=j/\H' g=-.lst gvs/\Paired (GAt H') gvs gs/\(∀g∈gs,g.2.ok ts/\g.2.dep<=10)/\H' l=-.lst (ns.map V.str)/\H' so=-.lst (ts.map V.str)/\H' q=-.lst ((ts.drop I).map V.str)/\H' d=-.lst (ds.map V.int)/\(∃n:Int,H' qa=-.lst [.int n])/\ao H H'
 refine dw (K:=K) (xs:=(ts.drop I).map V.str) I20
  {none,none,[],[],rfl,rfl,rfl,S7 _ _ q6,.nil,(λg h=>nomatch h),S47 _ _ hl4,(S6.trans S7) _ _ q5,q7,S47 _ _ hd4,{_,S47 _ _ q4},SS7} (λj U H' _ pv=>?_) (λj x U H' hx pv=>?_) (λU H' pv=>?_)
 ·obtain⟨_,_,_,_,_,_,_,_,_,_,_,_,h,_⟩:=pv;exact SqL.of h
 ·obtain⟨x10,x11,gvs,gs,rfl,hgs,hj,hg',gts,gok,hl',hso',hq',hd',hqa',SS⟩:=pv;rw[Qi]at hx
  cases hnm:(ts.drop I)[j]? with
  | none=>rw[hnm]at hx;cases hx
  | some nm =>
  rw[hnm]at hx;cases hx;have hjl:j<(ts.drop I).length:=(Qe.mp hnm).1;rw[Q5,lts]at hjl;have lgv:=aU gts;have len1:ts.length<=1000:=by omega
  refine au ?_;lk;refine{d,qa,so,ds,ts,dp,rfl,hd',dok,hqa',hso',tne,len1,dp1,⇑(Cg dp1 dp6),λv r G1 ra rok rd kp=>?_};refine au ?_;let I21:IvJ:=λU G2=>∃v r,U=[-.ref d,-.int spot,-.ref l,-.int way,-.int (m:Int),-.int (I:Int),-.int (dp:Int),-.ref qa,-.ref so,-.ref g,-.str nm,-v]/\RAt G2 v r/\r.ok ts/\r.dep<=6/\KpP qa H' G2;with_reducible refine de I21 (λR hR=>?_) (λσ6 H6' j6=>?_)
  ·have out:=hR _ _ {v,r,rfl,ra,rok,⇑(Cf dp1 dp6 rd),kp};lk;refine fv (λ_=>?_) (λ_=>?_)
   ·lk;refine{_,_,rfl,.inl (SqL.of (kp.old _ _ hg' nqg)),?_};lk;refine bh (SqL.of (kp.ints hqa' dok hd')) ez ?_;lk;refine cZ (by show (0:Int)<(m:Int);omega) ?_;lk;refine fv (λ_=>?_) (λ_=>out);lk;refine{d,qa,so,ds,ts,6,rfl,kp.ints hqa' dok hd',dok,kp.at',kp.strs hqa' hso',tne,len1,⋯,⋯,λv2 r2 G2 ra2 rok2 rd2 kp2=>?_};exact au (hR _ _ {v2,r2,rfl,ra2,rok2,rd2,kp.trans kp2})
   first|exact out|exact du out
  clear ra rok rd kp v r;let I22:IvJ:=λU G2=>∃v r,U=[-.ref d,-.int spot,-.ref l,-.int way,-.int (m:Int),-.int (I:Int),-.int (dp:Int),-.ref qa,-.ref so,-.ref g,-.str nm,-v]/\RAt G2 v r/\r.ok ts/\r.dep<=10/\KpP qa H' G2;with_reducible refine de I22 (λR hR=>?_) (λσ7 H7' j7=>?_)
  ·obtain⟨v,r,rfl,ra,rok,rd,kp⟩:=j6;have out:=hR _ _ {v,r,rfl,ra,rok,⇑(Ce rd),kp}
   have deeper:∀D:Ends,(∀U H,R U H->D.nx U H)->uh (i8 jU [] E0 (bp (bY 0) (bp (bY 7) (bp (bY 8) (bp (bY 11) eL))))) (eU 11) D [-.ref d,-.int spot,-.ref l,-.int way,-.int (m:Int),-.int (I:Int),-.int (dp:Int),-.ref qa,-.ref so,-.ref g,-.str nm,-v] H6':=λD hD=>by
    lk;refine{d,qa,so,ds,ts,v,r,rfl,kp.ints hqa' dok hd',dok,kp.at',kp.strs hqa' hso',tne,len1,ra,rok,rd,λv2 r2 G2 ra2 rok2 rd2 kp2=>?_};exact au (hD _ _ (hR _ _ {v2,r2,rfl,ra2,rok2,rd2,kp.trans kp2}))
   lk;refine fv (λ_=>ce (deeper _ λ_ _ h=>h)) (λ_=>?_);lk;refine fv (λ_=>?_) (λ_=>?_)
   ·lk;refine{_,_,rfl,.inl (SqL.of (kp.old _ _ hg' nqg)),?_};lk;refine bh (SqL.of (kp.ints hqa' dok hd')) ez ?_;lk;refine cZ (by show (0:Int)<(m:Int);omega) ?_;lk;refine fv (λ_=>?_) (λ_=>out);exact deeper _ λ_ _ h=>h
   first|exact out|exact du out
  obtain⟨v,r,rfl,ra,rok,rd,kp⟩:=j7;have hg7:=kp.old _ _ hg' nqg;lk;refine{by simp[sizeLine],λt ht=>?_};ctx_has H7' t H8 S8 q8 cS ht;have hg8:=S8 _ _ hg7;lk;refine d9 hg8 ⋯ ?_
  have kt:dH H8 (upd H8 g (.lst (gvs++[.ref t]))):=λb xs eb=>by
   have nb:b≠g:=λz=>by rw[z,hg8]at eb;cases eb
   rw[am nb];exact eb
  have kp8:KpP qa H' H8:=kp.trans (KpP.of kp.at' S8);have ngl:l≠g:=aG hl4 (ao.free S5 hg);have ngs:so≠g:=aG q5 hg;have ngq:q≠g:=λz=>by rw[z,q6]at hq;cases hq
  have ngd:d≠g:=aG hd4 (ao.free S5 hg);refine{_,_,gvs++[.ref t],gs++[(nm,r)],rfl,?_,by simp[hj],ae,dj (bD kt (bD (kp8.tups hqa') gts)) {t,v,rfl,kt _ _ q8,(ra.mono (ao.tups S8)).mono kt},λx hx=>?_,by rw[am ngl];exact kp8.strs hqa' hl',by rw[am ngs];exact kp8.strs hqa' hso',by rw[am ngq];exact kp8.strs hqa' hq',by rw[am ngd];exact kp8.ints hqa' dok hd',?_,?_}
  ·rw[Qp,hgs,QX,hnm];rfl
  ·rcases Qq.mp hx with h|h
   ·exact gok x h
   have:x=(nm,r):=by simpa using h
   rw[this];exact⟨rok,rd⟩
  ·obtain⟨n,hn⟩:=kp8.at';exact{n,by rw[am (XJ nqg)];exact hn}
  intro b o e;have nb:b≠g:=λz=>by rw[z,gH]at e;cases e
  have nq:b≠qa:=λz=>by rw[z,qaH]at e;cases e
  rw[am nb];exact kp8.old _ _ (SS _ _ e) nq
 obtain⟨x10,x11,gvs,gs,rfl,hgs,hj,hg',gts,gok,hl',hso',hq',hd',hqa',SS⟩:=pv;lk;refine jg (SqL.of hl') λp8 hp8=>?_;rw[xr (by rw[lns];omega),<-List.map_take];ctx_has H' p8 H8 S8 q8 cS hp8;lk;refine{by simp[sizeLine],λp9 hp9=>?_};ctx_has H8 p9 H9 S9 q9 cS hp9;have S89:=S8.trans S9;rw[Qa,Q5,lts]at hj
 have hw:aq (ns.take I) gs=ts:=by
  unfold aq;rw[hgs,show (ts.drop I).take ((ts.drop I).map V.str).length=ts.drop I from by rw[Qa];exact List.take_length];have:ns.take I=ts.take I:=by rw[<-eTS,List.take_take,Nat.min_eq_left ⇑(zE m1 m7 lts lts')]
  rw[this,Q0]
 refine k p9 p8 g (ns.take I) gvs gs H9 (SS.trans S89) {q9,S9 _ _ q8,S89 _ _ hg',bD (ao.tups S89) gts} {by rw[hw];exact nds,by rw[Qt];omega,⋯,⋯,λx hx=>by rw[hw];exact gok x hx}
end
def vO:Sp:=λvs H Q _=>∃a li lg ins gvs gs,vs=[.ref a]/\NAt H a li lg ins gvs gs/\∀a' li' lg' H',ao H H'->H a'=none->H li'=none->H lg'=none->NAt H' a' li' lg' ins gvs gs->Q (.ref a') H'
def jQ:Sp:=λvs H Q _=>∃(x:Int) (a li lg:Addr) (ins:List Str) (gvs:List V) (gs:J8),vs=[.int x,.ref a]/\NAt H a li lg ins gvs gs/\NetOk ins gs/\∀z H',StOk (aq ins gs).length z->ao H H'->Q (.str z) H'
theorem Gh (y:Int):∃c,atI ("01" : Str).cps.toList (Builtin.bitAnd y 1)=-c/\(c=48\/c=49):=by
 rw[PyProof.Rows.bitAnd_m1];have:y % 2=0\/y % 2=1:=by omega
 rcases this with e|e
 ·rw[e];exact{48,rfl,.inl rfl}
 rw[e];exact{49,rfl,.inr rfl}
theorem rY (h:∀z∈zs,∃c∈[48,49],z={#[c]}):StOk zs.length (Txt.join Str.empty zs):=by
 obtain⟨e1,e2⟩:=uY h;exact{e1,λc hc=>by simpa using e2 c hc}
section
theorem jr:FnScope ["x", "net"] ["x", "net"] (aC (top 40)):=by fin2
theorem uG {f:Addr} {fd:FuncData} (Fu:Fun K "_law_standing" "_law_standing" (top 40) f fd) (T:Txt K mg TT):FnOk P w K mg base CX0 1 f fd ["x", "net"] jQ:=by
 have S:=jr;w_up;obtain⟨x,a,li,lg,ins,gvs,gs,rfl,NA,ok,k⟩:=h;obtain⟨ha,hi,hg,gts⟩:=id NA;have lg':=aU gts;have i4:=ok.i4;have g7:=ok.g7;have big:1000<sizeLine:=by decide
 refine'{?_,?bb,?_}
 case bb =>
  refine' a7 ?_;rotate_left 1;walk_at "p";exact(aJ (cR PySem.F.plainAttrs_str PySem.F.slot_str_join PySem.F.type_str_join tD aP (aa (dB "k" [("x", 0)] (cA (by rfl) T.n_range (aa (ap aR (aE aM (by rfl) T.n_len QL (aa (aD bd (pv 1) ad) af)) (aE aM (by rfl) T.n_len QL (aa (aD bd (pv 1) ad) af))) af)) (λ_ _ _ _=>(aD fh aP (ap A4 (ap A2 (pv 1) (pv 0)) ad)))) af)))
 x_go;lk;refine{rfl,?_};lk;refine bS ?_;lk
 have en:((ins.map V.str).length:Int)+(gvs.length:Int)=(((aq ins gs).length:Nat):Int):=by
  unfold aq;rw[Qk,Qa,Qa,lg'];rfl
 have wl:(aq ins gs).length<1000:=by
  unfold aq;rw[Qk,Qa];omega
 rw[en];refine{⋯,⋯,λL hL=>?_};rw[Xq];let I23:IvC:=λn H2 ys=>ao H H2/\H2 L=-.lst ys/\∃zs:List Str,ys=zs.map V.str/\zs.length=n/\∀z∈zs,∃c∈[48,49],z={#[c]};refine fK I23 {ag hL,ae,[],rfl,rfl,λz h=>nomatch h} (λn H2 ys p=>p.2.1) (λn H2 ys hn p=>?_) (λH2 ys p=>?_)
 ·obtain⟨S2,h2,zs,rfl,hz,hc⟩:=p;refine au {⟨rfl,trivial⟩,i_yes (ce ?_)};show tOp _ _ _ [-.int (0+n),-.int x] _ _;lk;refine cZ (by show (0:Int)<=0+(n:Int);omega) ?_;lk;obtain⟨c,ec,hcc⟩:=Gh (x / 2 ^ (0+(n:Int)).toNat);refine gK (by decide +kernel) ec ?_;refine b9.mk h2 hn (by rw[Qa];exact Hj big wl hn hz) {aQ S2 hL,ae,zs++[{#[c]}],by simp,by simp[hz],λz hz'=>?_};rcases Qq.mp hz' with h|h
  ·exact hc z h
  rw[Qu]at h;exact{c,~~~hcc,h}
 obtain⟨S2,h2,zs,rfl,hz,hc⟩:=p;obtain⟨_,_,e3⟩:=fI zs hc;have e0:("" : Str)=Str.empty:=by decide +kernel
 have e00:("" : Str).length=0:=by decide +kernel
 refine aB {"", L,zs,rfl,rfl,SqL.of h2,by rw[e3,e00];omega,?_};rw[e0];exact k _ H2 (by rw[<-hz];exact rY hc) S2
theorem pP:FnScope ["net"] ["net"] (aC (top 49)):=by fin2
theorem yy {f:Addr} {fd:FuncData} (Fu:Fun K "_law_copy" "_law_copy" (top 49) f fd) (T:Txt K mg TT):FnOk P w K mg base CX0 1 f fd ["net"] vO:=by
 have S:=pP;w_up;obtain⟨a,li,lg,ins,gvs,gs,rfl,NA,k⟩:=h;obtain⟨ha,hi,hg,gts⟩:=id NA;refine{_,(a7 (aJ (br (aa (dI dy (by rfl) T.n_list XB (aa (aD bd (pv 0) ad) af)) (aa (dI dy (by rfl) T.n_list XB (aa (aD bd (pv 0) ad) af)) af se_call) se_call)))),?_};x_go;lk;intro l hl;have S1:=ag (o:=.lst (ins.map V.str)) hl;have ha1:=S1 _ _ ha;have hg1:=S1 _ _ hg;have hl1:upd H l (HO.lst (ins.map V.str)) l=-.lst (ins.map V.str):=ae;generalize upd H l (HO.lst (ins.map V.str))=H1 at *;lk;intro m hm;have S2:=ag (o:=.lst gvs) hm;have hl2:=S2 _ _ hl1;have hm2:upd H1 m (HO.lst gvs) m=-.lst gvs:=ae;generalize upd H1 m (HO.lst gvs)=H2 at *;lk;refine{by simp[sizeLine],λp hp=>?_};have S3:=ag (o:=.tup [.ref l,.ref m]) hp;have S13:=S1.trans (S2.trans S3);exact k p l m _ S13 (ao.free (S1.trans S2) hp) hl (ao.free S1 hm) {ae,S3 _ _ hl2,S3 _ _ hm2,bD (ao.tups S13) gts}
theorem nK:FnScope ["rule", "signs", "one", "other"] ["rule", "signs"] (aC (top 41)):=by fin2
theorem mI {f:Addr} {fd:FuncData} (Fu:Fun K "_law_holds" "_law_holds" (top 41) f fd) (T:Txt K mg TT) (hm:mg "_law_holds" = -.ref f) (hk:PySem.W.keepIn K (.ref f)=true) (hb:gN K fd ["rule", "signs"] []):∀d,FnOk P w K mg base CX0 d f fd ["rule", "signs"] (gt d)
 | 0=>hU λvs H Q E ⟨v,a,kvs,r,ns,g,_,_,h,_⟩=>by have:=tR r;exact Cc h this
 | d+1=>by
  have S:=nK;have f_law_holds:Fn P w K mg base "_law_holds" ["rule", "signs"] d (gt d):={f,fd,mI Fu T hm hk hb d,hm,hk,hb};refine Fu.ok S (λvs H Q E h=>?_) (λcdv A outer s H vs Q E hr h=>?_)
  ·obtain⟨v,a,kvs,r,ns,g,rfl,_⟩:=h;rfl
  obtain⟨v,a,kvs,r,ns,g,rfl,ra,hd,rok,ha,hf,q⟩:=h;have hu:=dC hr;refine'{?_,?bb,?_}
  case bb =>
   walk_at "b";exact(aL cE (aD bd (pv 0) ad) aP (aN _));exact(aJ (di cE (bC hu (pv 1) (aD bd (pv 0) ad)) aP (aN _)));exact(aL cE (aD bd (pv 0) ad) aP (aN _));exact(aJ (rn (gF f_law_holds (hr.mono (by first|decide|exact oq8)) (by rfl) (aa (aD bd (pv 0) ad) (aa (pv 1) af aj)))));exact aF 2 S.nd (gF f_law_holds (hr.mono (by first|decide|exact oq8)) (by rfl) (aa (aD bd (pv 0) ad) (aa (pv 1) af aj)));exact aF 3 S.nd (gF f_law_holds (hr.mono (by first|decide|exact oq8)) (by rfl) (aa (aD bd (pv 0) ad) (aa (pv 1) af aj)));exact(aL cE (aD bd (pv 0) ad) aP (aN _));exact(aJ (f_ (pv 2) (fZ (pv 3))));exact(aJ (zC (pv 2) (fZ (pv 3))))
  x_go
  cases ra with
  | @w b n hb =>
   lk;refine ifT (by decide +kernel) ?_;lk;have hv:bi kvs (Sum.inr n:Key)=-sg (g n):=hf n rok;refine{a,sg (g n),rfl,by rw[<-hv];exact cO.k (k:=Sum.inr n) ha,?_};lk;refine i_eq (by cases g n <;> rfl) ?_;rw[re];exact q
  | @no b u r hb hr1 =>
   lk;refine ifF (by decide +kernel) ?_;lk;refine ifT (by decide +kernel) ?_;lk;exact{u,a,kvs,r,ns,g,rfl,hr1,by simp only[Rl.dep]at hd;exact Cb hd,rok,ha,hf,⟨_,rfl,q⟩}
  | @an b u x r1 r2 hb hr1 hr2 =>
   lk;refine ifF (by decide +kernel) ?_;lk;refine ifF (by decide +kernel) ?_;lk;simp only[Rl.dep]at hd;refine{u,a,kvs,r1,ns,g,rfl,hr1,⇑(yg hd),rok.1,ha,hf,?_};lk;refine{x,a,kvs,r2,ns,g,rfl,hr2,⇑(yf hd),rok.2,ha,hf,?_};lk;refine ifT (by decide +kernel) ?_;have e:Rl.val g (Rl.an r1 r2)=(r1.val g&&r2.val g):=rfl;rw[e]at q;lk
   cases hv:r1.val g with
   | false=>rw[hv]at q;exact du q
   | true =>
   rw[hv]at q;refine ce ?_;lk;exact q
  | @orr b u x r1 r2 hb hr1 hr2 =>
  lk;refine ifF (by decide +kernel) ?_;lk;refine ifF (by decide +kernel) ?_;lk;simp only[Rl.dep]at hd;refine{u,a,kvs,r1,ns,g,rfl,hr1,⇑(yg hd),rok.1,ha,hf,?_};lk;refine{x,a,kvs,r2,ns,g,rfl,hr2,⇑(yf hd),rok.2,ha,hf,?_};lk;refine ifF (by decide +kernel) ?_;have e:Rl.val g (Rl.orr r1 r2)=(r1.val g || r2.val g):=rfl;rw[e]at q;lk
  cases hv:r1.val g with
  | true=>rw[hv]at q;exact ce q
  | false =>
  rw[hv]at q;refine du ?_;lk;exact q
end
theorem sk (hσ:U[i]?=- -.ref a) (NA:NAt H a li lg ins gvs gs) (ok:NetOk ins gs)
  (q:∀D H',H D=none->ao H H'->H' D=-.lst ((gs.map (·.1)).map V.str)->Q (.ref D) H') :
  i7 (mP K (tOp (pV K) (bY i) (tC (V.int 1)))) (By K 2 (xc (eU 0) (xc (eU 1) Gb))) gP (bY 0) (cg [Str.ofString "name", Str.ofString "rule"] []) U H Q:=by
 have l:=aU NA.gates;have g7:=ok.g7;have big:1000<sizeLine:=by decide
 refine bS (s_list (aO (ai hσ (i_c (i_ixT NA.ha rfl {lg,rfl,{_,SqL.of NA.hg},λD hD=>?_})))));refine bU (xs:=gvs) (λn H' ys=>ao H H'/\H' D=-.lst ys/\ys=((gs.map (·.1)).map V.str).take n) {ag hD,ae,by simp} (λn H' ys p=>{p.2.1,SqL.of (p.1 _ _ NA.hg)}) (λn x H' ys e p=>?_) (λH' ys p=>?_)
 ·obtain⟨S,hd,rfl⟩:=p;obtain⟨g,hgi,b,rv,rfl,hb,hrv⟩:=dL NA.gates n x e;have hn:n<gvs.length:=(Qe.mp e).1;refine{b,_,rfl,SqT.of (S _ _ hb),rfl,?_};refine{_,_,rfl,au {_,_,rfl,au {rfl,{trivial,i_yes (ce ?_)} } } };refine ai rfl (b9.mk hd hn (by rw[Qt];exact oq7 l g7 big hn) {aQ S hD,ae,?_});rw[QX,Qi,Qi,hgi];rfl
 obtain⟨S,hd,rfl⟩:=p;exact q D H' hD S (by rw[hd,Qw (by simp[l])])
section
theorem nN:FnScope ["net", "standing", "names", "signs", "found", "k", "name", "rule", "at", "sign"] ["net", "standing"] (aC (top 42)):=by fin2
theorem rG {f:Addr} {fd:FuncData} (Fu:Fun K "_law_asked" "_law_asked" (top 42) f fd) (T:Txt K mg TT) (f_law_holds:Fn P w K mg base "_law_holds" ["rule", "signs"] 10 (gt 10)):FnOk P w K mg base CX0 11 f fd ["net", "standing"] eY:=by
 have S:=nN;w_up;obtain⟨a,li,lg,ins,gvs,gs,z,rfl,NA,ok,st,k⟩:=h;have hu:=dC hr;refine'{?_,?bb,?_}
 case bb =>
  walk_at "b";exact aF 2 S.nd (ap cu (aD bd (pv 0) ad) (qe (tgs:=["name", "rule"]) (cap:=[]) rfl ⟨rfl,rfl,rfl,rfl,rfl,rfl⟩ (bw (aD bd (pv 0) ad)) (λ_ _ _ _=>(n_ (K:=K) (n:=2) rfl rfl (bE (dh (i:=0) (show List.Nodup [("name" : Str),("rule" : Str)] by decide +kernel) rfl (by z_go)) (bE (dh (i:=1) (show List.Nodup [("name" : Str),("rule" : Str)] by decide +kernel) rfl (by z_go)) ee)))) (λ_ _ _ _=>fY) (λ_ _ _ _=>(pv 0))));exact aF 3 S.nd (tj rfl (by rfl) T.n_dict (by rfl) T.n_zip (aa (pv 2) (aa (pv 1) af aj) aj));exact aF 4 S.nd (aZ af);walk_at "f";exact(s_ (by rfl) T.n_enumerate (aa (aD bd (pv 0) ad) af));exact(gY rfl (bE (bR 5 S.nd) (bE (gY rfl (bE (bR 6 S.nd) (bE (bR 7 S.nd) ee))) ee)));walk_at "p";exact(aL jb (a8 f_law_holds hr (aa (pv 7) (aa (pv 3) af aj) aj)) (di cE (bC hu (pv 3) (pv 6)) aP (aN _)) (aN _));exact aF 8 S.nd (ap aR (aE aM (by rfl) T.n_len QL (aa (aD bd (pv 0) ad) af)) (pv 5));exact aF 9 S.nd (aD fh aP (dI mf (by rfl) T.n_int PyProof.Rows.boot_int (aa (aD fh (pv 1) (pv 8)) af)));refine' bJ (cR QH QI QJ be (pv 4) ?a)
  case a =>
   walk_at "q";exact(pv 6);exact(ap bO (ap bO (a9 fc (pv 1) bu (bt (pv 8))) (pv 9)) (a9 fc (pv 1) (bt (ap aR (pv 8) ad)) bu))
  exact(aJ (pv 4))
 x_go;have i4:=ok.i4;have g7:=ok.g7;have lgn:=aU NA.gates;have wl:(aq ins gs).length=ins.length+gs.length:=by unfold aq;rw[Qk,Qa]
 have big:1000<sizeLine:=by decide
 obtain⟨ha,hi,hg,gts⟩:=id NA;lk;refine sk rfl NA ok λD H1 hD S1 h1=>?_;show xW _ _ _ _;refine gL (S1 _ _ hi) h1 (mo ok) λl0 hl0=>?_;rw[mn];ctx_has H1 l0 H2 S2 q2 cS hl0;lk;show bp _ _ _ _ _;lk;refine{l0,aq ins gs,z,rfl,SqL.of q2,by rw[st.len];exact oq8,⇑(oq9 i4 g7 lgn wl),λd hd0=>?_};ctx_has H2 d H3 S3 q3 cS hd0;have df:DFn (bB [] (c8 (aq ins gs) z)) (aq ins gs) (sgn (aq ins gs) z):=tQ ok.nd st;generalize bB [] (c8 (aq ins gs) z)=kvs at *;lk;refine{by decide,λl hl=>?_};ctx_has H3 l H4 S4 q4 cS hl;have S03:=S1.trans (S2.trans S3);have S04:=S03.trans S4;have hlH:H l=none:=ao.free S03 hl;have NA4:=NA.same S04;have hd4:=S4 _ _ q3;have dl:d≠l:=aG q3 hl;obtain⟨ha4,hi4,hg4,gts4⟩:=id NA4;lk;show bp _ _ _ _ _;lk;refine{lg,rfl,{_,SqL.of hg4},?_};let I24:IvF:=λi U H'=>(∃x5 x6 x7 x8 x9 vs',U=[-.ref a,-.str z,-.ref l0,-.ref d,-.ref l,x5,x6,x7,x8,x9]/\H' l=-.lst vs'/\vs'.length<=i/\Paired (oX H') vs' (((gs.zipIdx ins.length).take i).filterMap (cC (sgn (aq ins gs) z) z)))/\ao H H'/\H' d=-.dK kvs
 refine qF (xs:=gvs) I24
  { {_,_,_,_,_,[],rfl,q4,by simp,by simp;exact .nil},S04,hd4} (λi U H' _ pv=>SqL.of (pv.2.1 _ _ NA.hg)) (λi x U H' t hx pv ht=>?_) (λU H' pv=>?_)
 ·obtain⟨⟨x5,x6,x7,x8,x9,vs',rfl,hl',hlen,hp⟩,SS,hd'⟩:=pv;have hig:i<gvs.length:=(Qe.mp hx).1;obtain⟨g,hgi,b,rv,rfl,hb,hrv⟩:=dL NA.gates i x hx;have S5:=ag (o:=.tup [.int (i:Nat),.ref b]) ht;have hb5:=(SS.trans S5) _ _ hb;refine{t,_,rfl,SqT.of ae,rfl,?_};refine{_,_,rfl,au {_,_,rfl,{b,_,rfl,SqT.of hb5,rfl,{_,_,rfl,au {_,_,rfl,au {rfl,{rfl,?_} } } } } } };have hl5:=S5 _ _ hl';have hd5:=S5 _ _ hd';have SS5:=SS.trans S5;have hp5:=cI (ao.tups S5) hp;generalize upd H' t (.tup [.int (i:Nat),.ref b])=H5 at *;have hr5:=hrv.mono (ao.tups SS5);have gm:g∈gs:=Qg hgi;obtain⟨rok,rdep⟩:=ok.rules g gm;have hpl:ins.length+i<(aq ins gs).length:=by exact HU lgn wl hig
  have hzi:(gs.zipIdx ins.length)[i]?=-(g,ins.length+i):=by rw[List.getElem?_zipIdx,hgi];rfl
  have gw:g.1∈aq ins gs:=by
   unfold aq;exact QV _ (List.mem_map_of_mem gm)
  have hv1:bi kvs (Sum.inr g.1:Key)=-sg (sgn (aq ins gs) z g.1):=df g.1 gw
  have sgi:sgn (aq ins gs) z g.1=(z.cps.getD (ins.length+i) 0==49):=by
   have hw:(aq ins gs)[ins.length+i]?=-g.1:=by
    unfold aq;rw[QK ⇑Dn,Qi,show ins.length+i-ins.length=i from by exact Df,hgi];rfl
   have e2:(aq ins gs)[ins.length+i]=g.1:=(Qe.mp hw).2
   have hi':(aq ins gs).idxOf g.1=ins.length+i:=by
    rw[<-e2];exact List.Nodup.idxOf_getElem ok.nd _ hpl
   unfold sgn;rw[hi']
  rw[sgi]at hv1;lk;refine{rv,d,kvs,g.2,_,_,rfl,hr5,rdep,rok,hd5,df,?_};generalize hv:g.2.val (sgn (aq ins gs) z)=bv;lk;refine{d,_,rfl,by rw[<-hv1];exact cO.k (k:=Sum.inr g.1) hd5,?_};have zl:z.length=(aq ins gs).length:=st.len;have e:=jx st hpl;unfold fQ at e
  have so:cC (sgn (aq ins gs) z) z (g,ins.length+i)=if (bv==(z.cps.getD (ins.length+i) 0==49))=true then none else -(g.1,fP z (ins.length+i)):=by
   unfold cC;rw[hv]
  have fT:d_ z (ins.length+i)=if (z.cps.getD (ins.length+i) 0==49)=true then ("0" : Str) else ("1" : Str):=rfl
  have tk:((gs.zipIdx ins.length).take (i+1)).filterMap (cC (sgn (aq ins gs) z) z)=((gs.zipIdx ins.length).take i).filterMap (cC (sgn (aq ins gs) z) z)++(cC (sgn (aq ins gs) z) z (g,ins.length+i)).toList:=by
   rw[QX,hzi,List.filterMap_append];cases h:cC (sgn (aq ins gs) z) z (g,ins.length+i) <;> simp[h]
  lk;refine i_eq (by cases (z.cps.getD (ins.length+i) 0==49) <;> rfl) ?_;rw[re];generalize hbz:(z.cps.getD (ins.length+i) 0==49)=bz at *;lk
  cases hc:(bv==bz) with
  | true =>
   have:bv=bz:=by simpa using hc
   refine ifF (by rw[this];simp) ?_;rw[hc]at so;refine{ {_,_,_,_,_,vs',rfl,hl5,⇑(A1 hlen),?_},SS5,hd5};rw[tk,so];simpa using hp5
  | false =>
  have hne:bv≠bz:=by simpa using hc
  refine ifT (by simp[hne]) ?_;rw[hc]at so;have NA5:=NA.same SS5;obtain⟨ha5,hi5,hg5,gts5⟩:=id NA5;lk;have ep:((ins.map V.str).length:Int)+((i:Nat):Int)=((ins.length+i:Nat):Int):=by rw[Qa];omega
  rw[ep];lk;refine gK ⋯ (oN st hpl) ?_;rw[e];have sgt:sg bz=.str (if bz=true then ("1" : Str) else ("0" : Str)):=by cases bz <;> rfl
  rw[sgt];lk;refine{_,if bz=true then 1 else 0,rfl,by cases bz <;> decide +kernel,by cases bz <;> decide +kernel,?_};have l1:(d_ z (ins.length+i)).length=1:=by rw[fT];cases bz <;> decide +kernel
  refine gK (c:=if bz=true then 48 else 49) (by decide +kernel) (by cases bz <;> rfl) ?_;have cz:({#[if bz=true then 48 else 49]}:Str)=d_ z (ins.length+i):=by rw[fT];cases bz <;> decide +kernel
  rw[cz];have s1:=XR z none (-((ins.length+i:Nat):Int));have s2:=XR z (-(((ins.length+i:Nat):Int)+1)) none;lk;refine jf ⋯ ?_;lk;refine{_,_,rfl,rfl,⋯,?_};lk;refine jf ⋯ ?_;refine{_,_,rfl,rfl,by rw[lap];omega,?_};show eL _ _ _;lk;refine{by simp[sizeLine],λq hq=>?_};generalize hE:upd H5 q _=H6;have S6:ao H5 H6:=by rw[<-hE];exact ag hq
  have q6:H6 q=-.tup [.str g.1,.str (fP z (ins.length+i))]:=by rw[<-hE];exact ae
  clear hE;have hl6:=S6 _ _ hl5;have hd6:=S6 _ _ hd5;lk;refine d9 hl6 ⋯ ?_
  have kt:dH H6 (upd H6 l (.lst (vs'++[.ref q]))):=λb xs e=>by
   have:b≠l:=λx=>by rw[x,hl6]at e;cases e
   rw[am this];exact e
  refine{ {_,_,_,_,_,vs'++[.ref q],rfl,ae,by simp;exact C9 hlen,?_},aQ (SS5.trans S6) hlH,by rw[am dl];exact hd6};rw[tk,so];exact dj (cI kt (cI (ao.tups S6) hp5)) {q,rfl,kt _ _ q6}
 obtain⟨⟨x5,x6,x7,x8,x9,vs',rfl,hl',hlen,hp⟩,SS,hd'⟩:=pv;refine bH (te:=bY 4) (D:={ nx:=λx H'=>Q V.non H',rt:=Q }) (ai rfl ?_);refine k l vs' H' SS hlH hl' ?_;have e:(gs.zipIdx ins.length).length=gvs.length:=by rw[List.length_zipIdx,lgn]
 rw[<-e,List.take_length]at hp;exact hp
end
inductive PathE (es:List (Str × (Str × Str))) (s:Str):Str->List Str->Prop
 | nil:PathE es s s []
 | snoc {x h nm:Str} {ns:List Str}:x≠s->iB es x=-(nm,h)->PathE es s h ns->PathE es s x (ns++[nm])
theorem iy {ls:J7} (h:ls.length=xs.length):bi (fdK (aA xs) ls) (Sum.inr x)=none↔x∉xs:=by
 rw[cU,iz,Qw (by unfold aA;rw[Qa];exact zS h)];unfold aA;refine not_congr {λq=>?_,λq=>Qj.mpr ⟨x,q,rfl⟩};obtain⟨y,hy,e⟩:=Qj.mp q;cases e;exact hy
theorem BA (nd:xs.Nodup) (e1:xs[i]?=-x) (e2:ls[i]?=-b):bi (fdK (aA xs) ls) (Sum.inr x)=-.ref b:=by
 refine eX (gZ nd) (i:=i) ?_;have hz:((aA xs).zip ls)[i]?=-(Sum.inr x,b):=List.getElem?_zip_eq_some.mpr {eJ.mpr ⟨x,e1,rfl⟩,e2};unfold fdK;rw[Qi,hz];rfl
theorem xh (h:ls.length=xs.length):fdK (aA (xs++[x])) (ls++[b])=fdK (aA xs) ls++[(Sum.inr x,.ref b)]:=by
 unfold fdK aA;rw[Qp,List.zip_append (by rw[Qa];exact zR h),Qp];rfl
section
end
theorem wO (ok:NetOk ins gs) (st:StOk (aq ins gs).length z) (ln:(Bf.bfs (nxK (stN ins gs)) (Sum.inr z) n).length=n):∃xs,Bf.bfs (nxK (stN ins gs)) (Sum.inr z) n=aA xs/\xs.length=n/\Met ins gs z xs/\xs.length<=2048:=by
 have w11:(aq ins gs).length<=11:=by rw[bK];have:=ok.i4;have:=ok.g7;omega
 obtain⟨xs,exs⟩:=qC (ks:=Bf.bfs (nxK (stN ins gs)) (Sum.inr z) n) λk hk=>by
  obtain⟨y,e,_⟩:=fW st (Bf.cY n k hk);exact⟨y,e⟩
 have lxs:xs.length=n:=by rw[<-ln,exs];unfold aA;rw[Qa]
 have met:Met ins gs z xs:={by rw[lxs];exact exs.symm,λx hx=>by
  obtain⟨y,e,sy⟩:=fW st (Bf.cY n (Sum.inr x) (by rw[exs];exact Qj.mpr ⟨x,hx,rfl⟩));cases e
  exact sy}
 refine{xs,exs,lxs,met,?_}
 have:=gd w11 (xs:=aA xs) (by rw[<-exs];exact Bf.cB n) λx hx=>by
  obtain⟨y,hy,rfl⟩:=Qj.mp hx;exact{y,rfl,met.st y hy}
 unfold aA at this;rwa [Qa]at this
theorem yi {X:Cx} {K:PySem.W.Frag} (h:X.K=K) (hu:X.A.units+64<cLine):OpR X (compareOp .Eq) (rj K false):=by subst h;exact kB hu
theorem Met.few (m:Met ins gs z xs) (ok:NetOk ins gs):xs.length<=2048:=by
 have w11:(aq ins gs).length<=11:=by rw[bK];have:=ok.i4;have:=ok.g7;omega
 have:=gd w11 (xs:=aA xs) (by unfold aA;exact List.Pairwise.map _ (λa b h zz=>h (Sum.inr.inj zz)) m.nd) λx hx=>by
  obtain⟨y,hy,rfl⟩:=Qj.mp hx;exact{y,rfl,m.st y hy}
 unfold aA at this;rwa [Qa]at this
theorem r9 (h:Rd H F (.dK (fdK (aA xs) as))) (l:as.length=xs.length):BH K H F xs:=.inr {_,h,by rw[iz,Qw (by unfold aA;rw[Qa];exact zS l)];rfl}
theorem eA (h:Rd H F (.dK (fdK (aA xs) as))) (nd:xs.Nodup) (e1:xs[i]?=-x) (e2:as[i]?=-b):cO H F (.str x) (-.ref b) :=
 .inl {_,Sum.inr x,h,rfl,(BA nd e1 e2).symm}
def gr:Sp:=λvs H Q _=>∃(F:Addr) (xs:List Str) (as:J7) (cnt:Str->Nat),vs=[.ref F]/\Rd H F (.dK (fdK (aA xs) as))/\as.length=xs.length/\xs.length<=2048/\xs.Nodup /\
 (∀(i:Nat) x b,xs[i]?=-x->as[i]?=-b->∃vs,H b=-.lst vs/\vs.length=cnt x)/\∀(p:Addr) (ss:List Str) (H':Hp),ao H H'->H p=none->ss.Perm xs->ss.Pairwise leT->H' p=-.lst ((ss.filter λh=>decide (cnt h=0)).map V.str)->Q (.ref p) H'
section
theorem pL:FnScope ["steps"] ["steps"] (aC (top 20)):=by fin2
theorem rD {f:Addr} {fd:FuncData} (Fu:Fun K "rests_in" "rests_in" (top 20) f fd) (T:Txt K mg TT):FnOk P w K mg base CX0 1 f fd ["steps"] gr:=by
 have S:=pL;w_up;obtain⟨F,xs,as,cnt,rfl,hF,las,few,nd,sts,k⟩:=h;have hu:=dC hr;refine{_,(a7 (aJ (qe (tgs:=["here"]) (cap:=[("steps", 0)]) rfl ⟨rfl,rfl,rfl,rfl,rfl,rfl⟩ (bw (aE (fL rfl) (by rfl) T.n_sorted Xi (aa (pv 0) af aj))) (λ_ _ _ _=>(dh (i:=0) (show List.Nodup [("here" : Str),("steps" : Str)] by decide +kernel) rfl (by z_go))) (λ_ _ _ _=>(pZ (aL cE (aE (dX (K:=K) rfl) (by rfl) T.n_len QL (aa (bC hu (pv 1) (pv 0)) af)) ad (aN _)))) (λ_ _ _ _=>(pv 0))))),?_};x_go;refine bH (bS (s_list (c7 (ak (ai rfl (aB {F,xs,rfl,r9 hF las,⇑(Do las few),λp ss hp pm so=>?_}))))));ctx_has H p H1 S1 q1 aI hp;have lss:=pm.length_eq;refine{p,rfl,{_,SqL.of q1},λL hL=>?_};refine k9 (xs:=ss.map V.str) (λm H' ys=>ao H1 H'/\H' L=-.lst ys/\ys=((ss.take m).filter λh=>decide (cnt h=0)).map V.str) {ag hL,ae,by simp} (λm H' ys p=>{p.2.1,SqL.of (p.1 _ _ q1)}) (λm v H' ys e p=>?_) (λH' ys p=>?_)
 ·obtain⟨Sm,hd,rfl⟩:=p;rw[Qi]at e
  cases ex:ss[m]? with
  | none=>rw[ex]at e;cases e
  | some x =>
  rw[ex]at e;cases e;have hm:m<ss.length:=(Qe.mp ex).1;obtain⟨i,hi,exi⟩:=Qo.mp (pm.mem_iff.mp (Qg ex));have e1:xs[i]?=-x:=by rw[Qc hi,exi]
  obtain⟨b,e2⟩:∃b,as[i]?=some b:={_,Qc ⇑(wc las lss hi)};obtain⟨vs,hvs,lvs⟩:=sts i x b e1 e2;have S0m:=S1.trans Sm
  have hF':Rd H' F (.dK (fdK (aA xs) as)):=by
   rcases hF with r|⟨o,r⟩
   ·exact .inl (S0m _ _ r)
   exact .inr {o,S0m _ _ r}
  refine au {by repeat' (first|exact trivial|refine{rfl,?_}),?_};refine i_test (aO (c7 (ak (i_dget (ai rfl (ai rfl {F,_,rfl,eA hF' nd e1 e2,aB {b,vs,rfl,.inl (SqL.of (S0m _ _ hvs)),i_c (i_eq rfl {_,rfl,?_})} }))))));have tk:(ss.take (m+1)).filter (λh=>decide (cnt h=0))=(ss.take m).filter (λh=>decide (cnt h=0))++[x].filter (λh=>decide (cnt h=0)):=by rw[QX,ex,List.filter_append];rfl
  by_cases c:cnt x=0
  ·refine ifT (by rw[lvs,c];rfl) ?_;refine ai rfl (b9.mk hd (by rw[Qa];exact hm) ?_ {aQ Sm hL,ae,?_})
   ·rw[Qa];have:=List.length_filter_le (λh=>decide (cnt h=0)) (ss.take m);rw[Qt]at this;omega
   rw[tk,Qp];simp[c]
  refine ifF (by rw[lvs];exact QC λz=>c (by injection z with z;omega)) ?_;rw[Qa];refine{ss.length-(m+1),⇑(zQ hm),rfl,⇑(zP hm),Sm,hd,?_};rw[tk];simp[c]
 obtain⟨Sm,hd,rfl⟩:=p;rw[Qa,Qw (Qh _)]at hd;exact k L ss H' (S1.trans Sm) (ao.free S1 hL) pm so hd
end
def sQ (K:PySem.W.Frag) (TL:Addr):Sp:=λvs H Q _=>∃(a:Addr) (ns:List Int),vs=[.ref a]/\SqL K H a (ns.map V.int)/\ns.length<=63/\gC TL fH H/\∀H',Q (.bl true) H'
theorem vE (ns:List Str):∀(j:Nat) x y,(ns.map V.str)[j]?=-x->(ns.map V.str)[j]?=-y->EqD K H n x y true:=u8 (mR ns)
theorem wJ (h:NAt H a li lg ins gvs gs) (h':NAt H a' li' lg' ins gvs gs) :
  ∀(j:Nat) x y,[V.ref li',V.ref lg'][j]?=-x->[V.ref li,V.ref lg][j]?=-y->EqD K H 8 x y true:=λj x y e1 e2=>by
 match j with
 | 0=>cases e1;cases e2;exact qH (n:=7) (SqL.of h'.hi) (SqL.of h.hi) rfl (vE ins)
 | 1 =>
  cases e1;cases e2;refine qH (n:=7) (SqL.of h'.hg) (SqL.of h.hg) rfl (λj x y e1 e2=>?_);rw[e1]at e2;cases e2;obtain⟨b,rfl⟩:=kS h.gates x (Qg e1);exact .same
 | j+2=>simp at e1
theorem Tk.free (k:Tk T H H') (h:H' p=none):H p=none:=by
 cases e:H p with
 | none=>rfl
 | some u =>
 by_cases c:p=T
 ·obtain⟨ps,e2⟩:=Ay k.tab;rw[c,e2]at h;cases h
 rw[k.old _ _ e c]at h;cases h
theorem Tk.upd {o:HO} {xs:List V} (k:Tk T H H') (hp:H p=none) (h':H' p=-.lst xs):Tk T H (L2.upd H' p o):=by
 refine{λb u e n=>by rw[am (aG e hp)];exact k.old b u e n,?_};rcases k.tab with e|⟨c,e,q⟩
 ·exact .inl (by rw[am (λz=>by rw[z,h']at e;cases e)];exact e)
 exact .inr {c,by rw[am (λz=>by rw[z,h']at e;cases e)];exact e,by rw[am (λz=>by rw[z,h']at q;cases q)];exact q}
section
end
inductive Run (ins:List Str) (gs:J8):Str->List Str->Str->Prop where
 | nil {z:Str}:Run ins gs z [] z
 | cons {z y w:Str} {n:Str} {os:List Str}:(n,y)∈az ins gs z->StOk (aq ins gs).length y->Run ins gs y os w->Run ins gs z (n::os) w
section
end
theorem jP {n:Str} (st:StOk (aq ins gs).length z) (h:(n,y)∈az ins gs z):StOk (aq ins gs).length y:=by
 unfold az at h;obtain⟨⟨g,p⟩,hm,e⟩:=List.mem_filterMap.mp h;have hp:=List.mem_zipIdx hm;have wl:(aq ins gs).length=ins.length+gs.length:=by unfold aq;rw[Qk,Qa]
 unfold cC at e
 split at e
 ·cases e
 cases e;exact sF st ⋯
structure Wlk (ins:List Str) (gs:J8) (z:Str) (os as:List Str):Prop where
 len:as.length=os.length+1
 hd:as[0]?=-z
 st:∀x∈as,StOk (aq ins gs).length x
 step:∀(k:Nat) x n y,as[k]?=-x->os[k]?=-n->as[k+1]?=-y->(n,y)∈az ins gs x
section
end
theorem tX {st:Str->List (Str × Str)}:∀{xs:List Str} {x nm h:Str},iB (evs st xs) x=-(nm,h)->∃b:Nat,xs[b]?=-h/\(nm,x)∈st h/\∀(c:Nat) g,c<b->xs[c]?=-g->∀p∈st g,p.2≠x
 | [],x,nm,h,e=>by cases e
 | x0::xs,x,nm,h,e=>by
  have split:evs st (x0::xs)=((st x0).map λp=>(p.2,(p.1,x0)))++evs st xs:=rfl;unfold iB at e;rw[split,List.find?_append]at e
  cases q:((st x0).map λp=>(p.2,(p.1,x0))).find? λe=>e.1==x with
  | some r =>
   rw[q]at e;have hm:=List.mem_of_find?_eq_some q;have hx:=List.find?_some q;obtain⟨p',hp,rfl⟩:=Qj.mp hm;cases e;have hx:p'.2=x:=by simpa using hx
   exact{0,rfl,by rw[<-hx];exact hp,λc g l=>by omega}
  | none =>
  rw[q,Option.none_or]at e;obtain⟨b,h1,h2,h3⟩:=tX (xs:=xs) (x:=x) (nm:=nm) (h:=h) e;refine{b+1,~~~h1,h2,λc g l e2 p hp z=>?_}
  cases c with
  | zero =>
   simp at e2;subst e2;have:=List.find?_eq_none.mp q (p.2,(p.1,x0)) (Qj.mpr ⟨p,hp,rfl⟩);simp[z]at this
  | succ c=>exact h3 c g ⇑(zM l) (~~~e2) p hp z
section
theorem Run.snoc {x y w n:Str} {os:List Str} (r:Run ins gs x os y) (s:(n,w)∈az ins gs y) (st:StOk (aq ins gs).length w):Run ins gs x (os++[n]) w:=by
 induction r with
 | nil=>exact .cons s st .nil
 | cons a b _ ih=>exact .cons a b (ih s)
theorem Met.run (m:Met ins gs z xs) {y:Str} {ns:List Str} (p:Path (az ins gs) xs z y ns):y∈xs/\Run ins gs z ns y:=by
 induction p with
 | nil=>exact{Qg m.zero,.nil}
 | snoc ne c p ih =>
 obtain⟨b,hb,hs,_⟩:=tX c;have hm:=m.closed (Qg hb) hs;exact{hm,ih.2.snoc hs (m.st _ hm)}
end
def dS (ins:List Str) (gs:J8) (z:Str) (n:Nat):Prop:=(∀os y,Run ins gs z os y->os.length<=n)/\∃os y,Run ins gs z os y/\os.length=n
def nxS (ins:List Str) (gs:J8) (h:Str):List Str:=(az ins gs h).map (·.2)
def ahL (es:List (Str × (Str × Str))) (x:Str):List Str:=(es.filter λe=>e.1==x).map (·.2.2)
theorem hZ (a b:List (Str × (Str × Str))) (x:Str):ahL (a++b) x=ahL a x++ahL b x:=by unfold ahL;rw[List.filter_append,Qp]
theorem t6 (y x:Str):∀ps:List (Str × Str),ahL (ps.map λp=>(p.2,(p.1,y))) x=List.replicate ((ps.map (·.2)).count x) y
 | []=>rfl
 | p::ps=>by
  rw[QN,QN,List.count_cons,show ((p.2,p.1,y)::ps.map λp=>(p.2,p.1,y))=[(p.2,p.1,y)]++ps.map λp=>(p.2,p.1,y) from rfl,hZ,t6 y x ps];by_cases c:p.2=x
  ·rw[QF (~~~c),List.replicate_succ];unfold ahL;simp[c]
  rw[QE (~~~c)];unfold ahL;simp[c]
theorem t7 {b:Str} (h:b∈ahL (evs st xs) x):b∈xs/\x∈(st b).map (·.2):=by
 unfold ahL evs at h;obtain⟨e,he,rfl⟩:=Qj.mp h;obtain⟨h1,h2⟩:=List.mem_filter.mp he;obtain⟨y,hy,h3⟩:=List.mem_flatMap.mp h1;obtain⟨p,hp,rfl⟩:=Qj.mp h3;exact{hy,Qj.mpr {p,hp,~~~h2} }
theorem iY {st:Str->List (Str × Str)} {x h:Str}:∀{xs:List Str},xs.Nodup->h∈xs->(ahL (evs st xs) x).count h=((st h).map (·.2)).count x
 | [],_,m=>nomatch m
 | y::xs,nd,m=>by
  rw[Q6]at nd;have e:evs st (y::xs)=((st y).map λp=>(p.2,(p.1,y)))++evs st xs:=by unfold evs;rw[List.flatMap_cons]
  rw[e,hZ,t6,List.count_append,List.count_replicate];by_cases c:y=h
  ·subst c;rw[QF (by simp),List.count_eq_zero_of_not_mem (λq=>nd.1 (t7 q).1),Nat.add_zero]
  rw[QE (~~~c),Nat.zero_add];exact iY nd.2 ((QP.mp m).resolve_left λz=>c z.symm)
def cP (ws l:List Str):Nat:=l.countP λx=>decide (x∈ws)
theorem oG {ws:List Str} {w:Str} (h:w∉ws):∀l,cP (ws++[w]) l=cP ws l+l.count w
 | []=>rfl
 | x::l=>by
  have ih:=oG h l;unfold cP at ih ⊢;rw[List.countP_cons,List.countP_cons,List.count_cons,ih];by_cases c:x=w
  ·subst c;simp[h];exact CV
  simp[c];exact CU
theorem Gf (ws l:List Str):cP ws l<=l.length:=List.countP_le_length
theorem BC {ws l:List Str} (h:cP ws l=l.length):∀x∈l,x∈ws:=λx hx=>by simpa using List.countP_eq_length.mp h x hx
section
variable {h b:Str}
theorem dS.rest (e:az ins gs h=[]):dS ins gs h 0:=by
 refine{λos y r=>?_,[],h,.nil,rfl}
 cases r with
 | nil=>exact Qh _
 | cons m _ _=>rw[e]at m;cases m
variable {n a:Nat}
theorem dS.up (st:StOk (aq ins gs).length h) (all:∀p∈az ins gs h,∃m,m<=n/\dS ins gs p.2 m) (one:∃p∈az ins gs h,dS ins gs p.2 n):dS ins gs h (n+1):=by
 refine{λos y r=>?_,?_}
 ·cases r with
  | nil=>exact QB _
  | @cons _ y _ nm os m _ r =>
   obtain⟨k,hk,l⟩:=all _ m;have:=l.1 _ _ r;rw[QT];exact CS hk this
 obtain⟨p,hp,_,os,y,r,e⟩:=one;exact{p.1::os,y,.cons hp (jP st hp) r,by rw[QT,e]}
theorem dS.at (l:dS ins gs h n) (st:StOk (aq ins gs).length h) {p:Str × Str} (hp:p∈az ins gs h):∀os y,Run ins gs p.2 os y->os.length+1<=n:=λos y r=>by
 have:=l.1 (p.1::os) y (.cons hp (jP st hp) r);simpa using this
structure NumOk (ins:List Str) (gs:J8) (xs:List Str) (ps:List (Str × Nat)):Prop where
 nd:(ps.map (·.1)).Nodup
 sub:∀p∈ps,p.1∈xs
 long:∀p∈ps,dS ins gs p.1 p.2
 out:∀h∈xs,h∉ps.map (·.1)->∃p∈az ins gs h,p.2∉ps.map (·.1)
structure Cnt (ins:List Str) (gs:J8) (xs:List Str) (ps:List (Str × Nat)) (a:Nat) (tk:List Str) (lf:Str->Int):Prop where
 nd:(ps.map (·.1)).Nodup
 sub:∀p∈ps,p.1∈xs
 mono:∀(i j:Nat) p q,i<=j->ps[i]?=-p->ps[j]?=-q->p.2<=q.2
 near:∀(i:Nat) p q,a<=i->ps[i]?=-p->q∈ps->q.2<=p.2+1
 long:∀p∈ps,dS ins gs p.1 p.2
 val:∀h∈xs,lf h=((nxS ins gs h).length:Int)-cP ((ps.take a).map (·.1)) (nxS ins gs h)-tk.count h
 zero:∀h∈xs,lf h=0↔h∈ps.map (·.1)
variable {rs tk tl:List Str}
theorem Cnt.start (nd:rs.Nodup) (h:∀x,x∈rs↔x∈xs/\az ins gs x=[]):Cnt ins gs xs (rs.map λx=>(x,0)) 0 [] λx=>((az ins gs x).length:Int):=by
 have e:(rs.map λx=>(x,0)).map (·.1)=rs:=by rw[QR];exact List.map_id _
 have z0:∀p∈rs.map λx=>((x,0):Str × Nat),p.2=0/\p.1∈rs:=λp hp=>by
  obtain⟨x,hx,rfl⟩:=Qj.mp hp;exact⟨rfl,hx⟩
 refine{by rw[e];exact nd,λp hp=>((h _).mp (z0 p hp).2).1,λi j p q _ hp hq=>?_,λi p q _ hp hq=>?_,λp hp=>?_,λx hx=>?_,λx hx=>?_}
 ·rw[(z0 p (Qg hp)).1];exact QB _
 ·rw[(z0 q hq).1];exact QB _
 ·rw[(z0 p hp).1];exact .rest ((h _).mp (z0 p hp).2).2
 ·unfold nxS cP;rw[Qa];simp
 rw[e,h];show ((az ins gs x).length:Int)=0↔_;rw[<-Xb];exact{λq=>{hx,⋯},λq=>by omega}
variable {lf:Str->Int} {ps:List (Str × Nat)}
theorem Cnt.few (c:Cnt ins gs xs ps a tk lf):ps.length<=xs.length:=by
 have:=Bf.pigeon (ps.map (·.1)) xs c.nd λx hx=>by
  obtain⟨p,hp,rfl⟩:=Qj.mp hx;exact c.sub p hp
 rwa [Qa]at this
theorem Cnt.go (m:Met ins gs z xs) (c:Cnt ins gs xs ps a tk lf) {here:Str × Nat} (e:ps[a]?=-here) (full:ahL (evs (az ins gs) xs) here.1=tk++b::tl) :
  b∈xs/\b∉ps.map (·.1)/\(lf b-1=0->Cnt ins gs xs (ps++[(b,here.2+1)]) a (tk++[b]) λx=>if x=b then lf b-1 else lf x)/\(lf b-1≠0->Cnt ins gs xs ps a (tk++[b]) λx=>if x=b then lf b-1 else lf x):=by
 obtain⟨hb,hin⟩:=t7 (show b∈ahL (evs (az ins gs) xs) here.1 by rw[full];simp);have hc:=iY (st:=az ins gs) (x:=here.1) m.nd hb;rw[full,List.count_append,List.count_cons]at hc;simp only[beq_self_eq_true,if_true]at hc;have ha:a<ps.length:=(Qe.mp e).1
 have hout:here.1∉(ps.take a).map (·.1):=λq=>by
  obtain⟨i,hi,ei⟩:=Qo.mp q;rw[Qa,Qt]at hi;rw[List.getElem_map,List.getElem_take]at ei;have nd:=c.nd;have:=(List.getElem_inj (i:=i) (j:=a) (h₀:=by rw[Qa];exact CQ ha hi) (h₁:=by rw[Qa];exact ha) nd).mp (by rw[List.getElem_map,List.getElem_map,ei,(Qe.mp e).2]);exact CP ha hi this
 have hsn:=oG hout (nxS ins gs b);have hle:=Gf ((ps.take a).map (·.1)++[here.1]) (nxS ins gs b);have hl:=c.val b hb;have hnx:((az ins gs b).map (·.2))=nxS ins gs b:=rfl;rw[hnx]at hc;have lfb:1<=lf b:=by omega
 have bout:b∉ps.map (·.1):=λq=>by
  have:=(c.zero b hb).mpr q;omega
 have lfs:∀(qs:List (Str × Nat)),(qs.take a).map (·.1)=(ps.take a).map (·.1)->∀h∈xs,(if h=b then lf b-1 else lf h)=((nxS ins gs h).length:Int)-cP ((qs.take a).map (·.1)) (nxS ins gs h)-(tk++[b]).count h:=λqs eq h hh=>by
  rw[eq,List.count_append,List.count_singleton];by_cases cb:h=b
  ·subst cb;rw[QF rfl,hl];simp;omega
  rw[QE cb,c.val h hh,QE (~~~(λz=>cb z.symm))];simp
 refine{hb,bout,λz0=>?_,λz0=>?_}
 ·have et:((ps++[(b,here.2+1)]).take a).map (·.1)=(ps.take a).map (·.1):=by rw[List.take_append_of_le_length ⇑(zJ ha)]
  have hq2:∀q∈ps,q.2<=here.2+1:=λq hq=>c.near a here q (Qh _) e hq
  have ge:∀(i:Nat) p,(ps++[(b,here.2+1)])[i]?=-p->(ps[i]?=-p)\/(i=ps.length/\p=(b,here.2+1)):=λi p hp=>by
   by_cases ci:i<ps.length
   ·rw[QO ci]at hp;exact .inl hp
   rw[QK ⇑(zO ci)]at hp
   have:i-ps.length=0:=by
    have:=(Qe.mp hp).1;simp at this;exact CO this
   rw[this]at hp;cases hp;exact .inr {⇑(CN ci this),rfl}
  have mem:∀q,q∈ps++[(b,here.2+1)]->q∈ps\/q=(b,here.2+1):=λq hq=>(Qq.mp hq).imp id Qu.mp
  have lb:dS ins gs b (here.2+1):=by
   refine .up (m.st b hb) (λp hp=>?_) ?_
   ·have all:=BC (ws:=(ps.take a).map (·.1)++[here.1]) (l:=nxS ins gs b) ⋯ p.2 (Qj.mpr ⟨p,hp,rfl⟩);rcases Qq.mp all with q|q
    ·obtain⟨r,hr,er⟩:=Qj.mp q;obtain⟨i,hi⟩:=List.mem_iff_getElem?.mp hr
     have hia:i<a:=by
      have:=(Qe.mp hi).1;rw[Qt]at this;exact CM ha this
     rw[List.getElem?_take_of_lt hia]at hi;exact{r.2,c.mono i a r here ⇑(zJ hia) hi e,by rw[<-er];exact c.long r (Qg hi)}
    rw[Qu]at q;exact{here.2,Qh _,by rw[q];exact c.long here (Qg e)}
   obtain⟨p,hp,ep⟩:=Qj.mp hin;exact{p,hp,by rw[ep];exact c.long here (Qg e)}
  refine{?_,λq hq=>?_,λi j p q hij hp hq=>?_,λi p q hi hp hq=>?_,λq hq=>?_,lfs _ et,λh hh=>?_}
  ·rw[Qp]
   exact Xw.mpr {c.nd,by simp,λx hx y hy z=>by
    have:y=b:=by simpa using hy
    exact bout (by rw[<-this,<-z];exact hx)}
  ·rcases mem q hq with q'|rfl
   ·exact c.sub q q'
   exact hb
  ·rcases ge i p hp with hp|⟨hp1,rfl⟩
   ·rcases ge j q hq with hq|⟨hq1,rfl⟩
    ·exact c.mono i j p q hij hp hq
    exact hq2 p (Qg hp)
   rcases ge j q hq with hq|⟨hq1,rfl⟩
   ·have:=(Qe.mp hq).1;exact CL hij hp1 this
   exact Qh _
  ·rcases ge i p hp with hp|⟨hp1,rfl⟩
   ·have hm:=c.mono a i here p hi e hp;rcases mem q hq with q'|rfl
    ·exact c.near i p q hi hp q'
    show here.2+1<=p.2+1;exact CK hm
   rcases mem q hq with q'|rfl
   ·have:=hq2 q q';show q.2<=here.2+1+1;exact CJ this
   show here.2+1<=here.2+1+1;exact CI
  ·rcases mem q hq with q'|rfl
   ·exact c.long q q'
   exact lb
  rw[Qp,Qq];by_cases cb:h=b
  ·subst cb;rw[QF rfl];exact{λ_=>.inr (by simp),λ_=>z0}
  rw[QE cb,c.zero h hh];exact{.inl,λq=>q.resolve_right λy=>cb (~~~y)}
 refine{c.nd,c.sub,c.mono,c.near,c.long,lfs _ rfl,λh hh=>?_};by_cases cb:h=b
 ·subst cb;rw[QF rfl];exact{λq=>absurd q z0,λq=>absurd q bout}
 rw[QE cb];exact c.zero h hh
theorem Cnt.turn (m:Met ins gs z xs) {here:Str × Nat} (e:ps[a]?=-here) (c:Cnt ins gs xs ps a (ahL (evs (az ins gs) xs) here.1) lf):Cnt ins gs xs ps (a+1) [] lf:=by
 have ha:a<ps.length:=(Qe.mp e).1;have et:(ps.take (a+1)).map (·.1)=(ps.take a).map (·.1)++[here.1]:=by rw[QX,e,Qp];rfl
 have hout:here.1∉(ps.take a).map (·.1):=λq=>by
  have nd:=c.nd;rw[<-Q0 (a+1) ps,Qp]at nd;have nd:=(Xw.mp nd).1;rw[et]at nd;exact(Xw.mp nd).2.2 _ q _ (by simp) rfl
 refine{c.nd,c.sub,c.mono,λi p q hi hp hq=>c.near i p q ⇑(zL hi) hp hq,c.long,λh hh=>?_,c.zero};rw[c.val h hh,et,oG hout,iY m.nd hh];show _=_-((cP _ _+(nxS ins gs h).count here.1:Nat):Int)-_;rw[show ((az ins gs h).map (·.2))=nxS ins gs h from rfl];simp;omega
theorem Cnt.fin (c:Cnt ins gs xs ps a [] lf) (e:ps.length<=a):NumOk ins gs xs ps:=by
 refine{c.nd,c.sub,c.long,λh hh ho=>?_};have n0:lf h≠0:=λz=>ho ((c.zero h hh).mp z);have hl:=c.val h hh;rw[Qw e]at hl;simp at hl;by_cases ex:∃p∈az ins gs h,p.2∉ps.map (·.1)
 ·exact ex
 refine absurd ?_ n0
 have:cP (ps.map (·.1)) (nxS ins gs h)=(nxS ins gs h).length:=List.countP_eq_length.mpr λx hx=>by
  obtain⟨p,hp,rfl⟩:=Qj.mp hx;exact QS (Decidable.byContradiction λq=>ex ⟨p,hp,q⟩)
 rw[hl,this];omega
end
theorem wZ {t:TE} (r:Rd H a u) (f:Fz u) (q:∀o,t U (upd H a (.frz o u)) λv H'=>H' a=-.frz o u/\Q v (back H a H')):zc t U H Q:=⟨a,u,r,f,q⟩
theorem iU {ta:TA} (q:ta U H λvs H1=>∃l xs ps,vs=[.ref l]/\SqL K H1 l xs/\xs.length<10000/\Paired (qR H1) xs ps/\∀d,H1 d=none->Q (.ref d) (upd H1 d (.dK (bB [] (cH ps))))):sJ K ta U H Q:=q
theorem AF {rd:V->V->Hp->VK->Prop} {D:Ends} (q:td U H λx H1=>ty U H1 λy H2=>∃a v,x=.ref a/\cO H2 a y (-v)/\tv U H2 λy2 H3=>rd v y2 H3 λz H4=>∃H5,iC H4 a y z H5/\D.nx U H5):zm td ty tv rd D U H:=q
def SD (H:Hp) (F:Addr) (ins:List Str) (gs:J8) (xs:List Str):Prop:=∃as:J7,Rd H F (.dK (fdK (aA xs) as))/\as.length=xs.length/\∀(i:Nat) x b,xs[i]?=-x->as[i]?=-b->bA H b (cX (az ins gs x))
theorem nV (S:ao H H') (r:Rd H a u):Rd H' a u:=by
 rcases r with r|⟨o,r⟩
 ·exact .inl (S _ _ r)
 exact .inr {o,S _ _ r}
variable {H H':Hp} {F:Addr} {ins:List Str} {gs:J8} {xs:List Str}
section
theorem SD.same (S:ao H H') (h:SD H F ins gs xs):SD H' F ins gs xs:=let ⟨as,r,l,s⟩:=h;{as,nV S r,l,λi x b e1 e2=>(s i x b e1 e2).same S}
variable {kvs:List (Key × V)}
theorem il (r:Rd H F (.dK kvs)) {b:Addr} {o:HO} (e:H b=-o) (n1:∀k,o≠.dK k) (n2:∀ob u,o≠.frz ob u):b≠F:=λz=>by
 rcases r with r|⟨ob,r⟩
 ·rw[z,r]at e;exact n1 _ (Q2 e).symm
 rw[z,r]at e;exact n2 _ _ (Q2 e).symm
theorem mC {o:Obj} (r:Rd H F (.dK kvs)) {b:Addr} {sts:List (V × Key)} (h:bA H b sts):bA (upd H F (.frz o (.dK kvs))) b sts:=by
 obtain⟨vs,h1,h2⟩:=h;refine{vs,by rw[am (il r h1 (λ_ z=>nomatch z) λ_ _ z=>nomatch z)];exact h1,bZ (λv s ⟨c,ec,q⟩=>{c,ec,?_}) h2};rw[am (il r q (λ_ z=>nomatch z) λ_ _ z=>nomatch z)];exact q
theorem dQ {o:Obj} {u:HO} (r:Rd H F u) (S:ao (upd H F (.frz o u)) H'):ao H (back H F H'):=λb w e=>by
 by_cases c:b=F
 ·subst c;rw[gB];exact e
 rw[b8 c];exact S _ _ (by rw[am c];exact e)
end
theorem fk {α β:Type} {R:α->β->Prop}:∀{as:List α} {bs:List β},as.length=bs.length->(∀(i:Nat) a b,as[i]?=-a->bs[i]?=-b->R a b)->Paired R as bs
 | [],[],_,_=>.nil
 | [],_::_,h,_=>by simp at h
 | _::_,[],h,_=>by simp at h
 | a::as,b::bs,h,f=>.cons (f 0 a b rfl rfl) (fk (~~~h) λi x y e1 e2=>f (i+1) x y (~~~e1) (~~~e2))
theorem gv:∀(ps acc:List (Key × V)),(ps.map (·.1)).Nodup->(∀p∈ps,bi acc p.1=none)->bB acc ps=acc++ps
 | [],acc,_,_=>by rw[List.append_nil];rfl
 | p::ps,acc,nd,h=>by
  rw[QN,Q6]at nd;show bB (ca acc p.1 p.2) ps=_;rw[dY _ (h p (by simp)),gv ps _ nd.2 (λq hq=>?_),Xa]
  ·rfl
  have h1:=cU.mp (h q (Qx _ hq));refine cU.mpr λz=>?_;rw[Qp]at z;rcases Qq.mp z with z|z
  ·exact h1 z
  have:q.1=p.1:=by simpa using z
  exact nd.1 (by rw[<-this];exact Qj.mpr ⟨q,hq,rfl⟩)
theorem xf (xs:List Str) (bs:J7):cH ((xs.zip bs).map λp=>(p.1,V.ref p.2))=fdK (aA xs) bs:=by
 unfold cH fdK aA;rw[List.zip_map_left,QR,QR];rfl
theorem Bz {bs:J7} (nd:xs.Nodup):bB [] (cH ((xs.zip bs).map λp=>(p.1,V.ref p.2)))=fdK (aA xs) bs:=by
 rw[xf,gv _ _ (gZ nd) (λ_ _=>rfl),List.nil_append]
def sT:Sp:=λvs H Q _=>∃(F:Addr) (ins:List Str) (gs:J8) (xs:List Str),vs=[.ref F]/\SD H F ins gs xs/\xs.Nodup/\xs.length<=2048/\(∀h∈xs,∀p∈az ins gs h,p.2∈xs)/\gs.length<=7 /\
 ∀(A:Addr) (bs:J7) (H':Hp),ao H H'->H A=none->H' A=-.dK (fdK (aA xs) bs)->bs.length=xs.length->(∀(i:Nat) x b,xs[i]?=-x->bs[i]?=-b->H b=none/\H' b=-.lst ((ahL (evs (az ins gs) xs) x).map V.str))->Q (.ref A) H'
theorem yN {ins:List Str} (g7:gs.length<=7):∀ys:List Str,(evs (az ins gs) ys).length<=7*ys.length:=λys=>by
 unfold evs
 induction ys with
 | nil=>simp
 | cons y ys ih =>
 rw[List.flatMap_cons,Qk,Qa,QT];have:=eO ins gs y;exact Dq g7 ih this
theorem yS (es:List (Str × (Str × Str))) (x:Str):(ahL es x).length<=es.length:=by unfold ahL;rw[Qa];exact List.length_filter_le _ _
theorem xG (es:List (Str × (Str × Str))) (y n h x:Str):ahL (es++[(y,(n,h))]) x=if x=y then ahL es x++[h] else ahL es x:=by
 rw[hZ];by_cases c:x=y
 ·subst c;rw[QF rfl];congr 1;unfold ahL;simp
 rw[QE c];have:ahL [(y,n,h)] x=[]:=by unfold ahL;simp;exact λz=>c z.symm
 rw[this,List.append_nil]
section
theorem gU:FnScope ["found", "ahead", "here", "step"] ["found"] (aC (top 25)):=by fin2
theorem wE {f:Addr} {fd:FuncData} (Fu:Fun K "standings_ahead" "standings_ahead" (top 25) f fd) (T:Txt K mg TT):FnOk P w K mg base CX0 1 f fd ["found"] sT:=by
 have S:=gU;w_up;obtain⟨F,ins,gs,xs,rfl,sd,nd,few,cl,g7,k⟩:=h;have hu:=dC hr;refine'{?_,?bb,?_}
 case bb =>
  walk_at "b";exact aF 1 S.nd (eF rfl (by rfl) T.n_dict (aa (rp (dB "here" [] (eR (pv 0)) (λ_ _ _ _=>(br (aa (pv 0) (aa (aZ af) af se_lst) aj))))) af));refine' n8 ?_;rotate_left 1;walk_at "f";exact(eR (pv 0));exact(bR 2 S.nd);walk_at "p";walk_at "f";exact(bw (bC hu (pv 0) (pv 2)));exact(bR 3 S.nd);walk_at "p";exact(bJ (cR QH QI QJ be (bC hu (pv 1) (aD bd (pv 3) ad)) (aa (pv 2) af aj)));exact(aJ (pv 1))
 x_go;obtain⟨as,r,las,sts⟩:=id sd;have lk:(fdK (aA xs) as).length=xs.length:=by unfold fdK aA;simp[las]
 kt_k;refine bj (iU (ak (wZ r trivial λo=>?_)));have hF2:upd H F (.frz o (.dK (fdK (aA xs) as))) F=-.frz o (.dK (fdK (aA xs) as)):=ae;have bk:∀{H':Hp},ao (upd H F (.frz o (.dK (fdK (aA xs) as)))) H'->ao H (back H F H'):=λS=>dQ r S
 have fr2:∀{b},upd H F (.frz o (.dK (fdK (aA xs) as))) b=none->H b=none:=λ{b} e=>by
  by_cases c:b=F
  ·rw[c,hF2]at e;cases e
  rw[am c]at e;exact e
 generalize upd H F (.frz o (.dK (fdK (aA xs) as)))=H2 at *;refine bS (fE (ai rfl {F,o,_,rfl,hF2,λL hL=>?_}));let I25:IvC:=λm H' ys=>∃bs ts:J7,bs.length=m/\ts.length=m/\ys=ts.map V.ref/\ao H2 H'/\H' L=-.lst ys/\bs.Nodup/\(∀b∈bs,H2 b=none/\b≠L/\H' b=-.lst [])/\∀(i:Nat) t x b,ts[i]?=-t->xs[i]?=-x->bs[i]?=-b->H' t=-.tup [.str x,.ref b]
 refine iW I25
  {[],[],rfl,rfl,rfl,ag hL,ae,by simp,λb hb=>(nomatch hb),λi t x b e=>(nomatch e)} (λm H' ys ⟨bs,ts,p⟩=>{p.2.2.2.2.1,p.2.2.2.1 _ _ hF2}) (λm k' v H' ys e p=>?_) (λH' ys p=>?_)
 ·obtain⟨bs,ts,lb,lt,rfl,Sm,hd,ndb,hbs,hts⟩:=p;obtain⟨x,b0,e1,e2,rfl,rfl⟩:=kW e;have hm:m<xs.length:=(Qe.mp e1).1;refine au {by repeat' (first|exact trivial|refine{rfl,?_}),i_yes (ce ?_)};refine i_tup (ak (ai rfl (ak (cw (aB {by simp[sizeLine],λb hb=>aB {by simp[sizeLine],λt ht=>?_} })))));have S3:ao H' (upd H' b (.lst [])):=ag hb;have S4:ao (upd H' b (.lst [])) (upd (upd H' b (.lst [])) t (.tup [kV (Sum.inr x),.ref b])):=ag ht;have b4:upd (upd H' b (.lst [])) t (.tup [kV (Sum.inr x),.ref b]) b=-.lst []:=S4 _ _ ae;have t4:upd (upd H' b (.lst [])) t (.tup [kV (Sum.inr x),.ref b]) t=-.tup [.str x,.ref b]:=ae;have tL:t≠L:=λz=>by rw[z,S3 _ _ hd]at ht;cases ht
  have bL:b≠L:=λz=>by rw[z,hd]at hb;cases hb
  have S34:=S3.trans S4;generalize upd (upd H' b (.lst [])) t (.tup [kV (Sum.inr x),.ref b])=H4 at *;have hL4:=S34 _ _ hd;refine b9.mk hL4 (by rw[lk];exact hm) (by rw[Qa];omega) {bs++[b],ts++[t],by simp[lb],by simp[lt],by simp,aQ (Sm.trans S34) hL,ae,?_,λc hc=>?_,λi t' x' b' h1 h2 h3=>?_}
  ·refine Xw.mpr {ndb,by simp,λc hc y hy z=>?_};have:y=b:=by simpa using hy
   have:=(hbs c hc).2.2;rw[z,‹y=b›,hb]at this;cases this
  ·rcases Qq.mp hc with hc|hc
   ·obtain⟨q1,q2,q3⟩:=hbs c hc;exact{q1,q2,by rw[am q2];exact S34 _ _ q3}
   rw[Qu]at hc;subst hc;exact{ao.free Sm hb,bL,by rw[am bL];exact b4}
  by_cases ci:i<m
  ·rw[QO ⋯]at h1 h3;have q:=hts i t' x' b' h1 h2 h3;rw[am (λz=>by rw[z,hd]at q;cases q)];exact S34 _ _ q
  rw[QK ⋯]at h1 h3
  have ei:i=m:=by
   have:=(Qe.mp h1).1;simp at this;exact B5 lt ci this
  subst ei;rw[lt,Nat.sub_self]at h1;rw[lb,Nat.sub_self]at h3;rw[e1]at h2;cases h1;cases h2;cases h3;rw[am tL];exact t4
 rw[lk]at p;obtain⟨bs,ts,lb,lt,rfl,Sm,hd,ndb,hbs,hts⟩:=p;refine{Sm _ _ hF2,aB ?_};have LF:L≠F:=λz=>by rw[z,hF2]at hL;cases hL
 have bkx:∀{b u},H' b=-u->b≠F->back H F H' b=-u:=λe n=>by rw[b8 n];exact e
 have SB:=bk Sm;have hbF:∀b∈bs,b≠F:=λb hb z=>by have:=(hbs b hb).1;rw[z,hF2]at this;cases this
 have hb0:∀b∈bs,H b=none:=λb hb=>fr2 (hbs b hb).1;have hb3:∀b∈bs,back H F H' b=-.lst []:=λb hb=>bkx (hbs b hb).2.2 (hbF b hb);refine{L,ts.map V.ref,(xs.zip bs).map λp=>(p.1,V.ref p.2),rfl,SqL.of (bkx hd LF),by rw[Qa];omega,?_,λd hd3=>?_}
 ·refine fk (by simp[lt,lb]) λi v p e1 e2=>?_;rw[Qi]at e1 e2
  cases q1:ts[i]? with
  | none=>rw[q1]at e1;cases e1
  | some t =>
  rw[q1]at e1;cases e1
  cases q2:(xs.zip bs)[i]? with
  | none=>rw[q2]at e2;cases e2
  | some xb =>
  rw[q2]at e2;cases e2;obtain⟨a1,a2⟩:=List.getElem?_zip_eq_some.mp q2;have q:=hts i t xb.1 xb.2 q1 a1 a2;exact{t,rfl,bkx q λz=>by rw[z,Sm _ _ hF2]at q;cases q}
 rw[Bz nd];refine au ?_;generalize hE:upd (back H F H') d _=H3;obtain⟨S3,q3⟩:=aI hd3 hE;clear hE;have SH3:=SB.trans S3;have d0:H d=none:=ao.free SB hd3;have hb4:∀b∈bs,H3 b=-.lst []:=λb hb=>S3 _ _ (hb3 b hb);have r3:=nV SH3 r;have sts3:∀(i:Nat) h b,xs[i]?=-h->as[i]?=-b->bA H3 b (cX (az ins gs h)):=λi h b e1 e2=>(sts i h b e1 e2).same SH3
 have asb:∀(i:Nat) h b,xs[i]?=-h->as[i]?=-b->b∉bs:=λi h b e1 e2 hb=>by
  obtain⟨vs,q,_⟩:=sts i h b e1 e2;rw[hb0 b hb]at q;cases q
 clear hbs hts hd hb3;kt_k;refine sV (a:=F) (u:=.dK (fdK (aA xs) as)) r3 trivial λob=>?_;have sts4:∀(i:Nat) h b,xs[i]?=-h->as[i]?=-b->bA (upd H3 F (.frz ob (.dK (fdK (aA xs) as)))) b (cX (az ins gs h)):=λi h b e1 e2=>mC r3 (sts3 i h b e1 e2);have h4:∀b,b≠F->upd H3 F (.frz ob (.dK (fdK (aA xs) as))) b=H3 b:=λb n=>am n;have hF4:upd H3 F (.frz ob (.dK (fdK (aA xs) as))) F=-.frz ob (.dK (fdK (aA xs) as)):=ae
 have dF:d≠F:=λz=>by
  obtain⟨u,hu⟩:=jy r;rw[z,hu]at d0;cases d0
 generalize upd H3 F (.frz ob (.dK (fdK (aA xs) as)))=H4 at *;have hd4:H4 d=-.dK (fdK (aA xs) bs):=by rw[h4 d dF];exact q3
 have Fb:F∉bs:=λhb=>hbF F hb rfl;have db:d∉bs:=λhb=>by rw[hb4 d hb]at q3;cases q3
 let AH:=λ(H':Hp) (es:List (Str × (Str × Str)))=>∀(i:Nat) x b,xs[i]?=-x->bs[i]?=-b->H' b=-.lst ((ahL es x).map V.str);refine s_for (fE (ai rfl {F,ob,_,rfl,hF4,?_}));let I26:IvF:=λj σ' H'=>∃(x2 x3:Option V),σ'=[-.ref F,-.ref d,x2,x3]/\(∀b u,H4 b=-u->b∉bs->H' b=-u)/\AH H' (evs (az ins gs) (xs.take j))
 refine iw I26
  {_,_,rfl,λb u e _=>e,λi x b _ e2=>by rw[h4 b (hbF b (Qg e2))];exact hb4 b (Qg e2)} (λj σ' H' _ pv=>?_) (λj ky vl σ' H' hj pv=>?_) (λσ' H' pv=>?_)
 ·obtain⟨_,_,_,o2,_⟩:=pv;exact o2 F _ hF4 Fb
 ·obtain⟨x2,x3,rfl,o2,ah⟩:=pv;obtain⟨h,b,hx,hb,rfl,rfl⟩:=kW hj;obtain⟨vs,hvs,pvs⟩:=sts4 j h b hx hb;have bb:=asb j h b hx hb;have hxm:=Qg hx;have dg:cO H' F (kV (Sum.inr h)) (-.ref b):=.inl {_,Sum.inr h,.inr {ob,o2 F _ hF4 Fb},rfl,(eX (gZ nd) hj).symm};refine au ?_;refine s_for (s_list (i_dget (ai rfl (ai rfl {F,_,rfl,dg,b,rfl,{_,SqL.of (o2 _ _ hvs bb)},?_}))));let I27:IvF:=λi σ' H'=>∃(x3:Option V),σ'=[-.ref F,-.ref d,-.str h,x3]/\(∀b u,H4 b=-u->b∉bs->H' b=-u)/\AH H' (evs (az ins gs) (xs.take j)++((az ins gs h).take i).map λp=>(p.2,(p.1,h)))
  refine dw (xs:=vs) I27
   {_,rfl,o2,~~~ah} (λi σ' H' _ pv=>?_) (λi v σ' H' hv pv=>?_) (λσ' H' pv=>?_)
  ·obtain⟨_,_,o3,_⟩:=pv;exact SqL.of (o3 _ _ hvs bb)
  ·obtain⟨x3,rfl,o3,ah3⟩:=pv;obtain⟨p,b2,hp,rfl,hb2⟩:=gT pvs hv;have hb2H:H4 b2=-.tup [.str p.1,.str p.2]:=hb2;have b2b:b2∉bs:=λhb=>by rw[h4 b2 (hbF b2 hb),hb4 b2 hb]at hb2H;cases hb2H
   have hb3:H' b2=-.tup [.str p.1,.str p.2]:=o3 _ _ hb2 b2b;have hpm:p∈az ins gs h:=Qg hp;obtain⟨i2,hi2,ei2⟩:=Qo.mp (cl h hxm p hpm);have e1:xs[i2]?=-p.2:=by rw[Qc hi2,ei2]
   obtain⟨c,e2⟩:∃c,bs[i2]?=some c:={_,Qc ⋯};have hc:=ah3 i2 p.2 c e1 e2;have cm:=Qg e2;have dg2:cO H' d (.str p.2) (-.ref c):=eA (.inl (o3 _ _ hd4 db)) nd e1 e2
   have hev:evs (az ins gs) (xs.take j)++((az ins gs h).take (i+1)).map (λp=>(p.2,(p.1,h)))=(evs (az ins gs) (xs.take j)++((az ins gs h).take i).map λp=>(p.2,(p.1,h)))++[(p.2,(p.1,h))]:=by
    rw[QX,hp,Qp,Xa];rfl
   have lev:(evs (az ins gs) (xs.take j)++((az ins gs h).take i).map λp=>(p.2,(p.1,h))).length<=7*2048+7:=by
    rw[Qk,Qa,Qt];have h1:=yN (ins:=ins) g7 (xs.take j);have h2:=eO ins gs h;rw[Qt]at h1;omega
   refine au ?_;have la:=yS (evs (az ins gs) (xs.take j)++((az ins gs h).take i).map λp=>(p.2,(p.1,h))) p.2;refine s_drop (i_bm (i_dget (ai rfl (aO (ai rfl (i_c (i_ixT hb3 rfl {d,_,rfl,dg2,i_tyL hc,ak (ai rfl (aB (d9 hc (by rw[Qa];exact Dp (by decide) lev la) ?_)))})))))));refine{_,rfl,λb' u e n=>by rw[am (λz=>n (by rw[z];exact cm))];exact o3 b' u e n,λi3 x3 b3 e3 e4=>?_};rw[hev,xG];by_cases cx:x3=p.2
   ·subst cx;have:i3=i2:=(List.getElem?_inj (Qe.mp e3).1 nd).mp (by rw[e3,e1]);subst this;rw[e2]at e4;cases e4;rw[QF rfl,ae,Qp];rfl
   rw[QE cx,am (λz=>cx ?_)]
   ·exact ah3 i3 x3 b3 e3 e4
   subst z;have:i3=i2:=(List.getElem?_inj (Qe.mp e4).1 ndb).mp (by rw[e4,e2]);subst this;rw[e3]at e1;cases e1;rfl
  obtain⟨x3,rfl,o3,ah3⟩:=pv;refine{_,_,rfl,o3,?_};have lvs:vs.length=(az ins gs h).length:=by have:=aU pvs;unfold cX at this;rwa [Qa]at this
  rw[lvs,Qw (Qh _)]at ah3
  have e:evs (az ins gs) (xs.take (j+1))=evs (az ins gs) (xs.take j)++(az ins gs h).map λp=>(p.2,(p.1,h)):=by
   unfold evs;rw[QX,hx,List.flatMap_append];simp
  rw[e];exact ah3
 obtain⟨x2,x3,rfl,o2,ah⟩:=pv;rw[lk,Qw (Qh _)]at ah;refine{o2 F _ hF4 Fb,?_};refine bH (ai rfl (k d bs _ (λb u e=>?_) d0 ?_ lb λi x b e1 e2=>?_))
 ·by_cases cF:b=F
  ·subst cF;rw[gB];exact SH3 _ _ e
  rw[b8 cF];exact o2 b u (by rw[h4 b cF];exact SH3 _ _ e) λhb=>by rw[hb0 b hb]at e;cases e
 ·rw[b8 dF];exact o2 _ _ hd4 db
 have hb:=Qg e2;exact{hb0 b hb,by rw[b8 (hbF b hb)];exact ah i x b e1 e2}
end
def fR (ps:List (Str × Nat)):List (Key × V):=aX (ps.map λp=>(p.1,(p.2:Int)))
def eW (xs:List Str) (f:Str->Int):List (Key × V):=xs.map λx=>(Sum.inr x,V.int (f x))
theorem uX (xs:List Str) (f:Str->Int):(eW xs f).map (·.1)=aA xs:=by unfold eW aA;rw[QR];rfl
theorem iu {xs:List Str} (f:Str->Int) {b:Str}:∀{xs:List Str},b∈xs->bi (eW xs f) (Sum.inr b)=-.int (f b)
 | [],h=>nomatch h
 | x::xs,h=>by
  by_cases c:x=b
  ·subst c;exact bV rfl
  exact(bX (λz=>c (Sum.inr.inj z))).trans (iu (xs:=xs) f ((QP.mp h).resolve_left λz=>c z.symm))
theorem wV {xs:List Str} (f:Str->Int) {b:Str} (v:Int) (h:b∈xs):ca (eW xs f) (Sum.inr b) (.int v)=eW xs λx=>if x=b then v else f x:=by
 unfold ca;rw[cQ,iu (xs:=xs) f h,Option.isSome_some,QF rfl];unfold eW;rw[QR];refine List.map_congr_left λx _=>?_;by_cases c:x=b
 ·subst c;simp
 simp[c]
theorem iT (ps:List (Str × Nat)):(fR ps).map (·.1)=aA (ps.map (·.1)):=by unfold fR aX aA;rw[QR,QR,QR];rfl
theorem gf (nd:xs.Nodup):(aA xs).Nodup:=by unfold aA;exact List.Pairwise.map _ (λa b h z=>h (Sum.inr.inj z)) nd
variable {ps:List (Str × Nat)}
theorem wT (nd:(ps.map (·.1)).Nodup) {p:Str × Nat} (h:p∈ps):bi (fR ps) (Sum.inr p.1)=-.int p.2:=by
 obtain⟨i,hi,e⟩:=Qo.mp h;refine eX (i:=i) (by rw[iT];exact gf nd) ?_;unfold fR aX;rw[QR,Qi,Qc hi,e];rfl
theorem iS:bi (fR ps) (Sum.inr x)=none↔x∉ps.map (·.1):=by
 rw[cU,iT];unfold aA;refine not_congr {λh=>?_,λh=>Qj.mpr ⟨x,h,rfl⟩};obtain⟨y,hy,e⟩:=Qj.mp h;cases e;exact hy
theorem wU (h:x∉ps.map (·.1)):ca (fR ps) (Sum.inr x) (.int n)=fR (ps++[(x,n)]):=by
 rw[dY _ (iS.mpr h)];unfold fR aX;rw[Qp,Qp];rfl
def xH (H:Hp) (ts:J7) (xs:List Str) (f:Str->Int):Prop:=∀(i:Nat) t x,ts[i]?=-t->xs[i]?=-x->H t=-.tup [.str x,.int (f x)]
theorem pX {f:Str->Int} (lt:ts.length=m) (h:xH H' ts xs f) (S:ao H' H4) (hd:H' L=-.lst ys) (ht:H4 t=-.tup [.str x,.int (f x)]) (e1:xs[m]?=-x) (tL:t≠L):xH (upd H4 L o) (ts++[t]) xs f:=λi t' x' h1 h2=>by
 by_cases ci:i<m
 ·rw[QO ⇑(B6 lt ci)]at h1;have q:=h i t' x' h1 h2;rw[am (λz=>by rw[z,hd]at q;cases q)];exact S _ _ q
 rw[QK ⇑(Gv lt ci)]at h1
 have ei:i=m:=by
  have:=(Qe.mp h1).1;simp at this;exact B5 lt ci this
 subst ei;rw[lt,Nat.sub_self]at h1;rw[e1]at h2;cases h1;cases h2;rw[am tL];exact ht
theorem kj {f:Str->Int} (lt:ts.length=xs.length) (h:xH H ts xs f):Paired (qR H) (ts.map V.ref) (xs.map λx=>(x,V.int (f x))):=by
 refine fk (by simp[lt]) λi v p e1 e2=>?_;rw[Qi]at e1 e2
 cases q1:ts[i]? with
 | none=>rw[q1]at e1;cases e1
 | some t =>
 rw[q1]at e1;cases e1
 cases q2:xs[i]? with
 | none=>rw[q2]at e2;cases e2
 | some x =>
 rw[q2]at e2;cases e2;exact{t,rfl,h i t x q1 q2}
theorem qE (nd:xs.Nodup) (f:Str->Int):bB [] (cH (xs.map λx=>(x,V.int (f x))))=eW xs f:=by
 have e:cH (xs.map λx=>(x,V.int (f x)))=eW xs f:=by unfold cH eW;rw[QR];rfl
 rw[e,gv _ _ (by rw[uX];exact gf nd) (λ_ _=>rfl),List.nil_append]
def vL:Sp:=λvs H Q _=>∃(F:Addr) (ins:List Str) (gs:J8) (z:Str) (xs:List Str),vs=[.ref F]/\SD H F ins gs xs/\Met ins gs z xs/\NetOk ins gs /\
 ∀(N:Addr) (ps:List (Str × Nat)) (H':Hp),ao H H'->H N=none->H' N=-.dK (fR ps)->NumOk ins gs xs ps->Q (.ref N) H'
section
theorem gW:FnScope ["found", "ahead", "left", "waiting", "numbers", "at", "here", "before"] ["found"] (aC (top 26)):=by fin2
theorem yr {f:Addr} {fd:FuncData} (Fu:Fun K "most_switchings" "most_switchings" (top 26) f fd) (T:Txt K mg TT) (f_standings_ahead:Fn P w K mg base "standings_ahead" ["found"] 1 sT) (f_rests_in:Fn P w K mg base "rests_in" ["steps"] 1 gr):FnOk P w K mg base CX0 2 f fd ["found"] vL:=by
 have S:=gW;w_up;obtain⟨F,ins,gs,z,xs,rfl,sd,met,ok,k⟩:=h;have hu:=dC hr;refine'{?_,?bb,?_}
 case bb =>
  walk_at "b";exact aF 1 S.nd (a8 f_standings_ahead hr (aa (pv 0) af aj));exact aF 2 S.nd (eF rfl (by rfl) T.n_dict (aa (rp (dB "here" [("found", 0)] (eR (pv 0)) (λ_ _ _ _=>(br (aa (pv 0) (aa (aE (dX (K:=K) rfl) (by rfl) T.n_len QL (aa (bC hu (pv 1) (pv 0)) af)) af se_call) aj))))) af));exact aF 3 S.nd (a8 f_rests_in hr (aa (pv 0) af aj));exact aF 4 S.nd (eF rfl (by rfl) T.n_dict (aa (dB "rest" [] (bw (pv 3)) (λ_ _ _ _=>(br (aa (pv 0) (aa ad af aK) aj)))) af));exact aF 5 S.nd ad;refine' fX PassesOwn.never ?_ ?_;rotate_left 2;exact(aL jc (pv 5) (aE aM (by rfl) T.n_len QL (aa (pv 3) af aj)) (aN _));walk_at "p";exact aF 6 S.nd (aD aH (pv 3) (pv 5));walk_at "f";exact(bw (bC hu (pv 1) (pv 6)));exact(bR 7 S.nd);walk_at "p";exact(xX hu (pv 2) (pv 7) ad Bv (by intros;rfl));exact(aL cE (bC hu (pv 2) (pv 7)) ad (aN _));exact(gx hu (pv 4) (pv 7) (ap aR (bC hu (pv 4) (pv 6)) ad) rfl);exact(bJ (cR QH QI QJ be (pv 3) (aa (pv 7) af aj)));exact(vX (i:=5) S.nd rfl (by z_go) ad wY);exact(aJ (pv 4))
 x_go;have few:=met.few ok;have nd:=met.nd;have cl:∀h∈xs,∀p∈az ins gs h,p.2∈xs:=λh hh p hp=>met.closed hh hp;lk;refine{F,ins,gs,xs,rfl,sd,nd,few,cl,ok.g7,λA bs H1 S1 hA0 hA lb hbs=>?_};obtain⟨as,r,las,sts⟩:=sd.same S1;have lk:(fdK (aA xs) as).length=xs.length:=by unfold fdK aA;simp[las]
 refine au ?_;kt_k;refine bj (iU (ak (wZ r trivial λo=>?_)));have hF2:upd H1 F (.frz o (.dK (fdK (aA xs) as))) F=-.frz o (.dK (fdK (aA xs) as)):=ae;have bk:∀{H':Hp},ao (upd H1 F (.frz o (.dK (fdK (aA xs) as)))) H'->ao H1 (back H1 F H'):=λS=>dQ r S;have sts2:∀(i:Nat) x b,xs[i]?=-x->as[i]?=-b->bA (upd H1 F (.frz o (.dK (fdK (aA xs) as)))) b (cX (az ins gs x)):=λi x b e1 e2=>mC r (sts i x b e1 e2);generalize upd H1 F (.frz o (.dK (fdK (aA xs) as)))=H2 at *;refine bS (fE (ai rfl {F,o,_,rfl,hF2,λL hL=>?_}));let I28:IvC:=λm H' ys=>∃ts:J7,ts.length=m/\ys=ts.map V.ref/\ao H2 H'/\H' L=-.lst ys/\xH H' ts xs λx=>((az ins gs x).length:Int)
 refine iW I28
  {[],rfl,rfl,ag hL,ae,λi t x e=>(nomatch e)} (λm H' ys ⟨ts,p⟩=>{p.2.2.2.1,p.2.2.1 _ _ hF2}) (λm k' v H' ys e p=>?_) (λH' ys p=>?_)
 ·obtain⟨ts,lt,rfl,Sm,hd,hts⟩:=p;obtain⟨x,b,e1,e2,rfl,rfl⟩:=kW e;obtain⟨vs,hvs,pvs⟩:=(sts2 m x b e1 e2).same Sm;have hm:m<xs.length:=(Qe.mp e1).1;have lv:vs.length=(az ins gs x).length:=by have:=aU pvs;unfold cX at this;rwa [Qa]at this
  refine au {by repeat' (first|exact trivial|refine{rfl,?_}),i_yes (ce ?_)};refine i_tup (ak (ai rfl (ak (c7 (ak (i_dget (ai rfl (ai rfl {F,_,rfl,eA (.inr {o,Sm _ _ hF2}) nd e1 e2,aB {b,vs,rfl,.inl (SqL.of hvs),aB {by simp[sizeLine],λt ht=>?_} } }))))))));have S3:ao H' (upd H' t (.tup [kV (Sum.inr x),.int vs.length])):=ag ht;have t3:upd H' t (.tup [kV (Sum.inr x),.int vs.length]) t=-.tup [.str x,.int ((az ins gs x).length:Int)]:=by rw[ae,lv];rfl
  have tL:t≠L:=λz=>by rw[z,hd]at ht;cases ht
  generalize upd H' t (.tup [kV (Sum.inr x),.int vs.length])=H4 at *;exact b9.mk (S3 _ _ hd) (by rw[lk];exact hm) (by rw[Qa];omega) {ts++[t],by simp[lt],by simp,aQ (Sm.trans S3) hL,ae,pX lt hts S3 hd t3 e1 tL}
 rw[lk]at p;obtain⟨ts,lt,rfl,Sm,hd,hts⟩:=p;refine{Sm _ _ hF2,aB ?_};have LF:L≠F:=λz=>by rw[z,hF2]at hL;cases hL
 have bkx:∀{b u},H' b=-u->b≠F->back H1 F H' b=-u:=λe n=>by rw[b8 n];exact e
 have SB:=bk Sm;refine{L,ts.map V.ref,_,rfl,SqL.of (bkx hd LF),by rw[Qa];omega,kj lt λi t x e1 e2=>bkx (hts i t x e1 e2) (λz=>by have q:=hts i t x e1 e2;rw[z,Sm _ _ hF2]at q;cases q),λLf hLf=>?_};rw[qE nd];generalize hE:upd (back H1 F H') Lf _=H3;obtain⟨S3,hLf3⟩:=aI hLf hE;clear hE;have S13:=SB.trans S3;have Lf1:H1 Lf=none:=ao.free SB hLf;clear hts hd bkx;lk;obtain⟨as3,r3,las3,sts3⟩:=(sd.same S1).same S13;refine{F,xs,as3,λh=>(az ins gs h).length,rfl,r3,las3,few,nd,λi x b e1 e2=>?_,λWt ss H4 S4 hWt pm so hW4=>?_}
 ·obtain⟨vs,h1,h2⟩:=sts3 i x b e1 e2;exact{vs,h1,by have:=aU h2;unfold cX at this;rwa [Qa]at this}
 have rnd:(ss.filter λh=>decide ((az ins gs h).length=0)).Nodup:=(pm.nodup_iff.mpr nd).filter _
 have rmem:∀x,x∈(ss.filter λh=>decide ((az ins gs h).length=0))↔x∈xs/\az ins gs x=[]:=λx=>by
  rw[List.mem_filter,pm.mem_iff,XA,Xb]
 generalize (ss.filter λh=>decide ((az ins gs h).length=0))=rs at *;have c0:=Cnt.start (ins:=ins) (gs:=gs) (xs:=xs) rnd rmem;have lrs:rs.length<=xs.length:=by have:=c0.few;rwa [Qa]at this
 clear so pm;refine au ?_;kt_k;refine bj (iU (ak (bS (s_list (ai rfl {Wt,rfl,{_,SqL.of hW4},λL2 hL2=>?_})))));let I29:IvC:=λm H' ys=>∃ts:J7,ts.length=m/\ys=ts.map V.ref/\ao H4 H'/\H' L2=-.lst ys/\xH H' ts rs λ_=>0
 refine bU (xs:=rs.map V.str) I29
  {[],rfl,rfl,ag hL2,ae,λi t x e=>(nomatch e)} (λm H' ys ⟨ts,p⟩=>{p.2.2.2.1,SqL.of (p.2.2.1 _ _ hW4)}) (λm v H' ys e p=>?_) (λH5 ys p=>?_)
 ·obtain⟨ts,lt,rfl,Sm,hd,hts⟩:=p;rw[Qi]at e
  cases ex:rs[m]? with
  | none=>rw[ex]at e;cases e
  | some x =>
  rw[ex]at e;cases e;have hm:m<rs.length:=(Qe.mp ex).1;refine au {by repeat' (first|exact trivial|refine{rfl,?_}),i_yes (ce ?_)};refine i_tup (ak (ai rfl (ak (i_c (aB {by simp[sizeLine],λt ht=>?_})))));have S3:ao H' (upd H' t (.tup [.str x,.int 0])):=ag ht;have t3:upd H' t (.tup [.str x,.int 0]) t=-.tup [.str x,.int 0]:=ae;have tL:t≠L2:=λz=>by rw[z,hd]at ht;cases ht
  generalize upd H' t (.tup [.str x,.int 0])=H6 at *;exact b9.mk (S3 _ _ hd) (by rw[Qa];exact hm) (by rw[Qa];omega) {ts++[t],by simp[lt],by simp,aQ (Sm.trans S3) hL2,ae,pX (f:=λ_=>0) lt hts S3 hd t3 ex tL}
 rw[Qa]at p;obtain⟨ts,lt,rfl,Sm,hd,hts⟩:=p;refine aB {L2,ts.map V.ref,_,rfl,SqL.of hd,by rw[Qa];omega,kj (f:=λ_=>0) lt hts,λN hN=>?_};rw[qE rnd];ctx_has H5 N H6 S6 hN6 aI hN;have eN:eW rs (λ_=>0)=fR (rs.map λx=>(x,0)):=by unfold eW fR aX;rw[QR,QR];rfl
 rw[eN]at hN6;have S16:ao H1 H6:=S13.trans (S4.trans (Sm.trans S6));have hLf6:H6 Lf=-.dK (eW xs λx=>((az ins gs x).length:Int)):=(S4.trans (Sm.trans S6)) _ _ hLf3
 have hW6:H6 Wt=-.lst (((rs.map λx=>((x,0):Str × Nat)).map (·.1)).map V.str):=by
  rw[show (rs.map λx=>((x,0):Str × Nat)).map (·.1)=rs by rw[QR];exact List.map_id _];exact(Sm.trans S6) _ _ hW4
 have Wt1:H1 Wt=none:=ao.free S13 hWt;have N1:H1 N=none:=ao.free (S13.trans (S4.trans Sm)) hN;have LW:Lf≠Wt:=λz=>by rw[z]at hLf3;rw[hWt]at hLf3;cases hLf3
 have LN:Lf≠N:=λz=>by rw[<-z,(S4.trans Sm) _ _ hLf3]at hN;cases hN
 have WN:Wt≠N:=λz=>by rw[<-z,Sm _ _ hW4]at hN;cases hN
 clear hts hd hW4 hLf3;lk;let I30:IvF:=λm U H'=>∃(a:Nat) (ps:List (Str × Nat)) (lf:Str->Int) (x6 x7:Option V),U=[-.ref F,-.ref A,-.ref Lf,-.ref Wt,-.ref N,-.int (a:Int),x6,x7]/\m=xs.length+1-a/\a<=ps.length/\mj Lf Wt N H6 H'/\H' Lf=-.dK (eW xs lf)/\H' Wt=-.lst ((ps.map (·.1)).map V.str)/\H' N=-.dK (fR ps)/\Cnt ins gs xs ps a [] lf
 refine{I30,
  {_,0,_,_,_,_,rfl,rfl,QB _,λb o e _ _ _=>e,hLf6,hW6,hN6,c0},?_}
 rintro m U H' ⟨a,ps,lf,x6,x7,rfl,rfl,ha,off,hLf',hW',hN',c⟩;lk;rw[Qa,Qa];by_cases cn:a<ps.length
 case neg =>
  refine ifF (QC ⋯) ?_;refine bH (ai rfl (k N ps H' (λb u e=>off b u (S16 _ _ (S1 _ _ e)) (λz=>?_) (λz=>?_) λz=>?_) (ao.free S1 N1) hN' (c.fin ⇑(Du ha cn))))
  ·rw[z,ao.free S1 Lf1]at e;cases e
  ·rw[z,ao.free S1 Wt1]at e;cases e
  rw[z,ao.free S1 N1]at e;cases e
 refine ifT (QS ⋯) ?_;have fewp:=c.few;let I31:IvJ:=λσ' H''=>∃(ps:List (Str × Nat)) (lf:Str->Int) (x6 x7:Option V),σ'=[-.ref F,-.ref A,-.ref Lf,-.ref Wt,-.ref N,-.int ((a+1:Nat):Int),x6,x7]/\a+1<=ps.length/\mj Lf Wt N H6 H''/\H'' Lf=-.dK (eW xs lf)/\H'' Wt=-.lst ((ps.map (·.1)).map V.str)/\H'' N=-.dK (fR ps)/\Cnt ins gs xs ps (a+1) [] lf;refine{I31,λσ' H'' h=>?_,?_}
 ·obtain⟨ps,lf,x6,x7,e1,e2,e3⟩:=h;exact{xs.length+1-(a+1),⋯,a+1,ps,lf,x6,x7,e1,rfl,e2,e3}
 obtain⟨here,eh⟩:∃here,ps[a]?=some here:={_,Qc cn};have hhere:=c.sub here (Qg eh);obtain⟨ix,hix,eix⟩:=Qo.mp hhere;have ex:xs[ix]?=-here.1:=by rw[Qc hix,eix]
 obtain⟨b,eb⟩:∃b,bs[ix]?=some b:={_,Qc ⋯};obtain⟨_,hb1⟩:=hbs ix here.1 b ex eb;have bL:b≠Lf:=λz=>by rw[z,Lf1]at hb1;cases hb1
 have bW:b≠Wt:=λz=>by rw[z,Wt1]at hb1;cases hb1
 have bN:b≠N:=λz=>by rw[z,N1]at hb1;cases hb1
 have AL:A≠Lf:=λz=>by rw[z,Lf1]at hA;cases hA
 have AW:A≠Wt:=λz=>by rw[z,Wt1]at hA;cases hA
 have AN:A≠N:=λz=>by rw[z,N1]at hA;cases hA
 have hb6:∀{H'':Hp},mj Lf Wt N H6 H''->H'' b=-.lst ((ahL (evs (az ins gs) xs) here.1).map V.str):=λo=>o b _ (S16 _ _ hb1) bL bW bN;have hA6:∀{H'':Hp},mj Lf Wt N H6 H''->H'' A=-.dK (fdK (aA xs) bs):=λo=>o A _ (S16 _ _ hA) AL AW AN;generalize hfull:ahL (evs (az ins gs) xs) here.1=full at *;kt_k;refine bj (aO (ai rfl (ai rfl (bh (v:=.str here.1) (SqL.of hW') (ck (by rw[Qi,Qi,eh];rfl)) (au ?_)))));kt_k;refine s_for (s_list (i_dget (ai rfl (ai rfl {A,_,rfl,eA (.inl (hA6 off)) nd ex eb,b,rfl,{_,SqL.of (hb6 off)},?_}))));let I32:IvF:=λi σ' H'=>∃(ps:List (Str × Nat)) (lf:Str->Int) (x7:Option V),σ'=[-.ref F,-.ref A,-.ref Lf,-.ref Wt,-.ref N,-.int (a:Int),-.str here.1,x7]/\mj Lf Wt N H6 H'/\H' Lf=-.dK (eW xs lf)/\H' Wt=-.lst ((ps.map (·.1)).map V.str)/\H' N=-.dK (fR ps)/\ps[a]?=-here/\Cnt ins gs xs ps a (full.take i) lf
 refine dw (xs:=full.map V.str) I32
  {ps,lf,_,rfl,off,hLf',hW',hN',eh,by rw[List.take_zero];exact c} (λi σ' H' _ pv=>?_) (λi v σ' H' hv pv=>?_) (λσ' H' pv=>?_)
 ·obtain⟨_,_,_,_,o,_⟩:=pv;exact SqL.of (hb6 o)
 ·obtain⟨ps,lf,x7,rfl,o,hLf',hW',hN',eh,c⟩:=pv;rw[Qi]at hv
  cases ef:full[i]? with
  | none=>rw[ef]at hv;cases hv
  | some y =>
  rw[ef]at hv;cases hv;have hi:i<full.length:=(Qe.mp ef).1
  have es:full=full.take i++y::full.drop (i+1):=by
   rw[<-(Qe.mp ef).2,<-List.drop_eq_getElem_cons hi,Q0]
  have et:full.take (i+1)=full.take i++[y]:=by rw[QX,ef];rfl
  obtain⟨hy,ho,g1,g2⟩:=c.go met eh (hfull.trans es);rw[<-et]at g1 g2;have fewp:=c.few;refine au ?_;kt_k;have dgL:cO H' Lf (.str y) (-.int (lf y)):=.inl {_,Sum.inr y,.inl hLf',rfl,(iu (xs:=xs) lf hy).symm};refine AF (ai rfl (ai rfl {Lf,_,rfl,dgL,i_c {_,_,rfl,rfl,_,iC.k (k:=Sum.inr y) hLf' (by unfold eW;rw[Qa];omega),?_} }));rw[wV (xs:=xs) lf _ hy];have hLf2:upd H' Lf (.dK (eW xs λx=>if x=y then lf y-1 else lf x)) Lf=-.dK (eW xs λx=>if x=y then lf y-1 else lf x):=ae;have o2:mj Lf Wt N H6 (upd H' Lf (.dK (eW xs λx=>if x=y then lf y-1 else lf x))):=λb u e h1 h2 h3=>by rw[am h1];exact o b u e h1 h2 h3
  have hW2:upd H' Lf (.dK (eW xs λx=>if x=y then lf y-1 else lf x)) Wt=-.lst ((ps.map (·.1)).map V.str):=by rw[am LW.symm];exact hW'
  have hN2:upd H' Lf (.dK (eW xs λx=>if x=y then lf y-1 else lf x)) N=-.dK (fR ps):=by rw[am LN.symm];exact hN'
  generalize upd H' Lf (.dK (eW xs λx=>if x=y then lf y-1 else lf x))=H7 at *;have dgL2:cO H7 Lf (.str y) (-.int (lf y-1)):=.inl {_,Sum.inr y,.inl hLf2,rfl,by rw[iu (xs:=xs) _ hy,QF rfl]};refine s_if (i_test (aO (i_dget (ai rfl (ai rfl {Lf,_,rfl,dgL2,i_c (i_eq rfl {_,rfl,?_})})))));by_cases cz:lf y-1=0
  ·refine ifT (by rw[cz];rfl) ?_;have dgN:cO H7 N (.str here.1) (-.int here.2):=.inl {_,Sum.inr here.1,.inl hN2,rfl,(wT c.nd (Qg eh)).symm};kt_k;refine iJ (aO (i_dget (ai rfl (ai rfl {N,_,rfl,dgN,i_c (b_ (ai rfl (ai rfl {N,_,rfl,iC.k (k:=Sum.inr y) hN2 (by have:=congrArg List.length (iT ps);unfold aA at this;simp at this;omega),?_})))}))));rw[show ((here.2:Int)+1)=((here.2+1:Nat):Int) from rfl,wU ho];have hW3:upd H7 N (.dK (fR (ps++[(y,here.2+1)]))) Wt=-.lst ((ps.map (·.1)).map V.str):=by rw[am WN];exact hW2
   refine s_drop (i_bm (ai rfl {i_tyL hW3,ak (ai rfl (aB (d9 hW3 (by rw[Qa,Qa];omega) ?_)))}));refine{ps++[(y,here.2+1)],_,_,rfl,λb u e h1 h2 h3=>by rw[am h2,am h3];exact o2 b u e h1 h2 h3,by rw[am LW,am LN];exact hLf2,by rw[ae];simp,by rw[am WN.symm,ae],by rw[QO (Qe.mp eh).1];exact eh,g1 cz}
  refine ifF (QC λz=>cz (V.int.inj z)) ?_;exact{ps,_,_,rfl,o2,hLf2,hW2,hN2,eh,g2 cz}
 obtain⟨ps,lf,x7,rfl,o,hLf',hW',hN',eh,c⟩:=pv;rw[Qa,Qw (Qh _),<-hfull]at c;refine{_,rfl,i_c {_,_,rfl,rfl,?_} };exact{ps,lf,_,_,by rw[show ((a+1:Nat):Int)=(a:Int)+1 from rfl];rfl,(Qe.mp eh).1,o,hLf',hW',hN',c.turn met eh}
end
section
variable {os ss rs:List Str} {x y w h a r:Str}
theorem Run.trans {ps:List Str} (r:Run ins gs x os y) (q:Run ins gs y ps w):Run ins gs x (os++ps) w:=by
 induction r with
 | nil=>exact q
 | cons a b _ ih=>exact .cons a b (ih q)
theorem Run.rep (r:Run ins gs x os x):∀k,Run ins gs x (List.replicate k os).flatten x
 | 0=>.nil
 | k+1=>by rw[List.replicate_succ,List.flatten_cons];exact r.trans (r.rep k)
theorem Met.start (m:Met ins gs z xs):z∈xs:=Qg m.zero
theorem Met.runs (m:Met ins gs z xs) (r:Run ins gs x os y) (hx:x∈xs):y∈xs:=by
 induction r with
 | nil=>exact hx
 | cons a _ _ ih=>exact ih (m.closed hx a)
theorem Met.to (m:Met ins gs z xs) (hx:x∈xs):∃os,Run ins gs z os x:=by
 obtain⟨i,hi,e⟩:=Qo.mp hx;obtain⟨ns,p,_⟩:=m.path i x (by rw[Qc hi,e]);exact{ns,(m.run p).2}
theorem vY {p:Str × Str} (st:StOk (aq ins gs).length h) (hp:p∈az ins gs h):p.2.cps.toList.take ins.length=h.cps.toList.take ins.length:=by
 obtain⟨i,h1,h2,e,_⟩:=pA hp;rw[e,turn_list st (by rw[bK];exact h2),List.take_append_of_le_length,List.take_take,Nat.min_eq_left h1];have:=st.len;have hl:h.cps.toList.length=h.cps.size:=Qs;rw[bK]at this;rw[Qt];omega
theorem Met.pre (m:Met ins gs z xs) (hx:x∈xs):x.cps.toList.take ins.length=z.cps.toList.take ins.length:=by
 obtain⟨os,r⟩:=m.to hx;have st:=m.st z m.start;clear hx m
 induction r with
 | nil=>rfl
 | cons a b _ ih=>exact(ih b).trans (vY st a)
theorem Met.few7 (m:Met ins gs z xs) (ok:NetOk ins gs):xs.length<=128:=by
 have nd:(xs.map λx=>x.cps.toList.drop ins.length).Nodup:=by
  rw[List.Nodup,XN];refine List.Pairwise.imp_of_mem (λ{a b} ha hb n e=>n ?_) m.nd
  have:a.cps.toList=b.cps.toList:=by
   rw[<-Q0 ins.length a.cps.toList,<-Q0 ins.length b.cps.toList,m.pre ha,m.pre hb,e]
  cases a;cases b;simpa using this
 have:=Bf.pigeon _ (oW gs.length) nd λl hl=>by
  obtain⟨x,hx,rfl⟩:=Qj.mp hl;have st:=m.st x hx;refine lE _ _ ?_ λc hc=>st.signs c (List.mem_of_mem_drop hc);rw[Q5,Qs,st.len,bK];exact Df
 rw[Qa,lF]at this;have h2:2 ^ gs.length<=2 ^ 7:=Nat.pow_le_pow_right (by decide) ok.g7;have h3:(2:Nat) ^ 7=128:=by decide
 omega
theorem dS.calm {n:Nat} {ps:List Str} (l:dS ins gs h n) (r:Run ins gs h os a) (q:Run ins gs a ps a):ps=[]:=by
 cases ps with
 | nil=>rfl
 | cons p ps =>
 have:=l.1 _ _ (r.trans (q.rep (n+1)));rw[Qk,yE,QT]at this;have:n+1<=(n+1)*(ps.length+1):=Nat.le_mul_of_pos_right _ ⇑Dt;omega
theorem Run.seen (r:Run ins gs h os y):(∀a ps qs,Run ins gs h ps a->Run ins gs a qs a->qs=[])->∃as:List Str,as.length=os.length+1/\as.Nodup/\∀a∈as,∃ps,Run ins gs h ps a:=by
 induction r with
 | nil=>exact λ_=>{[_],rfl,by simp,λa ha=>by rw[Qu]at ha;rw[ha];exact{[],.nil} }
 | @cons z y w n os m st r ih =>
 intro c;obtain⟨as,h1,h2,h3⟩:=ih λa ps qs r1 r2=>c a (n::ps) qs (.cons m st r1) r2;refine{z::as,by simp[h1],Q6.mpr {λhz=>?_,h2},λa ha=>?_}
 ·obtain⟨ps,q⟩:=h3 z hz;exact nomatch (c z [] (n::ps) .nil (.cons m st q))
 rcases QP.mp ha with rfl|ha
 ·exact{[],.nil}
 obtain⟨ps,q⟩:=h3 a ha;exact{n::ps,.cons m st q}
theorem dS.lt (m:Met ins gs z xs) {n:Nat} (l:dS ins gs z n) (r:Run ins gs z os y):os.length<xs.length:=by
 obtain⟨as,h1,h2,h3⟩:=r.seen λa ps qs r1 r2=>l.calm r1 r2
 have:=Bf.pigeon as xs h2 λa ha=>by
  obtain⟨ps,q⟩:=h3 a ha;exact m.runs q m.start
 exact Ds h1 this
theorem dS.stop {n:Nat} (l:dS ins gs h n) (st:StOk (aq ins gs).length h):∃os y,Run ins gs h os y/\az ins gs y=[]:=by
 obtain⟨l1,os,y,r,e⟩:=l;refine{os,y,r,?_}
 cases q:az ins gs y with
 | nil=>rfl
 | cons p ps =>
 have hp:p∈az ins gs y:=by rw[q];simp
 have sy:StOk (aq ins gs).length y:=by
  clear e q hp l1
  induction r with
  | nil=>exact st
  | cons _ b _ ih=>exact ih b
 have:=l1 _ _ (r.snoc (n:=p.1) (w:=p.2) hp (jP sy hp));rw[Qk,List.length_singleton]at this;omega
variable {ps:List (Str × Nat)}
theorem NumOk.on (m:Met ins gs z xs) (o:NumOk ins gs xs ps):∀(k:Nat) h,h∈xs->h∉ps.map (·.1)->∃os y,Run ins gs h os y/\os.length=k
 | 0,h,_,_=>{[],h,.nil,rfl}
 | k+1,h,hh,ho=>by
  obtain⟨p,hp,hn⟩:=o.out h hh ho;obtain⟨os,y,r,e⟩:=o.on m k p.2 (m.closed hh hp) hn;exact{p.1::os,y,.cons hp (m.st _ (m.closed hh hp)) r,by rw[QT,e]}
theorem NumOk.iff (m:Met ins gs z xs) (o:NumOk ins gs xs ps) (hh:h∈xs):h∈ps.map (·.1)↔∃n,∀os y,Run ins gs h os y->os.length<=n:=by
 refine{λhm=>?_,λ⟨n,l⟩=>Decidable.byContradiction λho=>?_}
 ·obtain⟨p,hp,rfl⟩:=Qj.mp hm;exact{p.2,(o.long p hp).1}
 obtain⟨os,y,r,e⟩:=o.on m (n+1) h hh ho;have:=l os y r;exact Dr e this
def t_ (ins:List Str) (gs:J8) (z r:Str):Prop:=∃xs,Met ins gs z xs/\(∀x,x∈xs/\az ins gs x=[]↔x=r)/\∃n,dS ins gs z n
theorem NumOk.long_of (m:Met ins gs z xs) (o:NumOk ins gs xs ps) (hh:h∈xs):h∈ps.map (·.1)↔∃n,dS ins gs h n:=by
 refine{λhm=>?_,λ⟨n,l⟩=>(o.iff m hh).mpr ⟨n,l.1⟩};obtain⟨p,hp,rfl⟩:=Qj.mp hm;exact{p.2,o.long p hp}
theorem ur (m:Met ins gs z xs) (pm:ss.Perm xs):(ss.filter λh=>decide ((az ins gs h).length=0)).Nodup/\∀x,x∈(ss.filter λh=>decide ((az ins gs h).length=0))↔x∈xs/\az ins gs x=[]:=by
 refine{(pm.nodup_iff.mpr m.nd).filter _,λx=>?_};rw[List.mem_filter,pm.mem_iff,XA,Xb]
theorem uC {α:Type} {rs:List α} {r:α} (nd:rs.Nodup) (h:∀x,x∈rs↔x=r):rs=[r]:=by
 cases rs with
 | nil=>exact absurd ((h r).mpr rfl) (by simp)
 | cons a t =>
 have ea:=(h a).mp (by simp);subst ea
 cases t with
 | nil=>rfl
 | cons b t =>
 have eb:=(h b).mp (by simp);subst eb;simp at nd
theorem qi (nd:rs.Nodup) (h:∀x,x∈rs↔x=r):rs=[r]:=uC nd h
end
theorem F7 {T:String} {r:V->List V->Hp->VK->Prop} {to:TE} (q:to U H λx H1=>tyV K T x H1/\r x [] H1 Q):BV K T r to U H Q:=q
theorem Bn (ok:NetOk ins gs) (st:StOk (aq ins gs).length z):∃xs,Met ins gs z xs:=by
 have w11:(aq ins gs).length<=11:=by rw[bK];have:=ok.i4;have:=ok.g7;omega
 have few:∀n,(Bf.bfs (nxK (stN ins gs)) (Sum.inr z) n).length<=2048:=λn=>gd w11 (Bf.cB n) λx hx=>fW st (Bf.cY n x hx)
 have:∀n,(∃k,(Bf.bfs (nxK (stN ins gs)) (Sum.inr z) k).length=k)\/n<(Bf.bfs (nxK (stN ins gs)) (Sum.inr z) n).length:=λn=>by
  induction n with
  | zero=>exact .inr (by simp[Bf.bfs])
  | succ n ih =>
  rcases ih with h|h
  ·exact .inl h
  have:=(Bf.lC (nx:=nxK (stN ins gs)) (s:=Sum.inr z) n).length_le;rcases Nat.lt_or_ge (n+1) (Bf.bfs (nxK (stN ins gs)) (Sum.inr z) (n+1)).length with l|l
  ·exact .inr l
  exact .inl {n+1,⇑(C8 h this l)}
 rcases this 2048 with⟨k,h⟩|h
 ·obtain⟨xs,_,_,m,_⟩:=wO ok st h;exact⟨xs,m⟩
 have:=few 2048;omega
def WD (H:Hp) (F:Addr) (ins:List Str) (gs:J8) (ys:List Str) (ls:J7):Prop:=H F=-.dK (fdK (aA ys) ls)/\ls.length=ys.length/\∀(i:Nat) y l,ys[i]?=-y->ls[i]?=-l->H l=-.lst ((nxS ins gs y).map V.str)
def qZ:Sp:=λvs H Q _=>∃a li lg ins gvs gs z,vs=[.ref a,.str z]/\NAt H a li lg ins gvs gs/\NetOk ins gs/\StOk (aq ins gs).length z /\
 ∀(F:Addr) (ys xs:List Str) (ls:J7) (H':Hp),ao H H'->H F=none->Met ins gs z xs->ys.Perm xs->WD H' F ins gs ys ls->Q (.ref F) H'
structure WI (ins:List Str) (gs:J8) (z:Str) (xs ys ln:List Str):Prop where
 nd:ys.Nodup
 sub:∀y,y∈ys\/y∈ln->y∈xs
 start:z∈ys\/z∈ln
 cl:∀y∈ys,∀p∈az ins gs y,p.2∈ys\/p.2∈ln
section
variable {ins:List Str} {gs:J8} {z:Str} {xs ys ln:List Str}
theorem WI.fin (m:Met ins gs z xs) (w:WI ins gs z xs ys []):ys.Perm xs:=by
 refine(List.perm_ext_iff_of_nodup w.nd m.nd).mpr λx=>{λh=>w.sub x (.inl h),λh=>?_};obtain⟨os,r⟩:=m.to h;have hz:z∈ys:=w.start.resolve_right (by simp);have cl:∀y∈ys,∀p∈az ins gs y,p.2∈ys:=λy hy p hp=>(w.cl y hy p hp).resolve_right (by simp);clear h w m
 induction r with
 | nil=>exact hz
 | cons a _ _ ih=>exact ih (cl _ hz _ a)
theorem WI.old {h:Str} (w:WI ins gs z xs ys (ln++[h])) (hh:h∈ys):WI ins gs z xs ys ln:=by
 have f:∀x,x∈ys\/x∈ln++[h]->x∈ys\/x∈ln:=λx q=>by
  rcases q with q|q
  ·exact .inl q
  rcases Qq.mp q with q|q
  ·exact .inr q
  rw[Qu]at q;rw[q];exact .inl hh
 exact{w.nd,λy q=>w.sub y (q.imp id λq=>XX _ q),f z w.start,λy hy p hp=>f _ (w.cl y hy p hp)}
theorem WI.new {h:Str} (m:Met ins gs z xs) (w:WI ins gs z xs ys (ln++[h])) (hh:h∉ys):WI ins gs z xs (ys++[h]) (ln++nxS ins gs h):=by
 have hx:h∈xs:=w.sub h (.inr (by simp))
 have f:∀x,x∈ys\/x∈ln++[h]->x∈ys++[h]\/x∈ln++nxS ins gs h:=λx q=>by
  rcases q with q|q
  ·exact .inl (XX _ q)
  rcases Qq.mp q with q|q
  ·exact .inr (XX _ q)
  exact .inl (QV _ q)
 have hn:∀{y},y∈nxS ins gs h->y∈xs:=λ{y} q=>by
  obtain⟨p,hp,rfl⟩:=Qj.mp q;exact m.closed hx hp
 refine{Xw.mpr {w.nd,by simp,λa ha b hb q=>hh (by rw[Qu]at hb;rw[<-hb,<-q];exact ha)},λy q=>?_,f z w.start,λy hy p hp=>?_}
 ·rcases q with q|q
  ·rcases Qq.mp q with q|q
   ·exact w.sub y (.inl q)
   rw[Qu]at q;rw[q];exact hx
  rcases Qq.mp q with q|q
  ·exact w.sub y (.inr (XX _ q))
  exact hn q
 rcases Qq.mp hy with q|q
 ·exact f _ (w.cl y q p hp)
 rw[Qu]at q;subst q;exact .inr (QV _ (Qj.mpr ⟨p,hp,rfl⟩))
end
section
theorem pM:FnScope ["net", "standing", "found", "line", "here"] ["net", "standing"] (aC (top 43)):=by fin2
theorem yn {f:Addr} {fd:FuncData} (Fu:Fun K "_law_ways" "_law_ways" (top 43) f fd) (T:Txt K mg TT) (f_law_asked:Fn P w K mg base "_law_asked" ["net", "standing"] 11 eY):FnOk P w K mg base CX0 12 f fd ["net", "standing"] qZ:=by
 have S:=pM;w_up;obtain⟨a,li,lg,ins,gvs,gs,z,rfl,NA,ok,st,k⟩:=h;have hu:=dC hr;refine'{?_,?bb,?_}
 case bb =>
  walk_at "b";exact aF 2 S.nd im;exact aF 3 S.nd (aZ (aa (pv 1) af aj));refine' fX PassesOwn.never ?_ ?_;rotate_left 2;exact(aL (og hr.units) (pv 3) (aZ af) (aN _));walk_at "p";exact aF 4 S.nd (AY QH PySem.F.slot_list_pop PySem.F.type_list_pop Bl (pv 3));exact(gX (dJ hu (pv 4) (pv 2)));exact(gx hu (pv 2) (pv 4) (qe (tgs:=["name", "there"]) (cap:=[]) rfl ⟨rfl,rfl,rfl,rfl,rfl,rfl⟩ (bw (a8 f_law_asked hr (aa (pv 0) (aa (pv 4) af aj) aj))) (λ_ _ _ _=>(n_ (K:=K) (n:=2) rfl rfl (bE (dh (i:=0) (show List.Nodup [("name" : Str),("there" : Str)] by decide +kernel) rfl (by z_go)) (bE (dh (i:=1) (show List.Nodup [("name" : Str),("there" : Str)] by decide +kernel) rfl (by z_go)) ee)))) (λ_ _ _ _=>fY) (λ_ _ _ _=>(pv 1))) rfl);exact aF 3 S.nd (ap cu (pv 3) (bC hu (pv 2) (pv 4)));exact(aJ (pv 2))
 x_go;obtain⟨xs,met⟩:=Bn ok st;have few:=met.few7 ok;have g7:=ok.g7;refine s_seq (bj ?_);intro F hF;refine au ?_;ctx_has H F H1 S1 q1 aI hF;kt_k;refine bj (cw (ak (ai rfl (aB {by simp[sizeLine],λL0 hL0=>au ?_}))));ctx_has H1 L0 H2 S2 q2 aI hL0;kt_k;let I33:IvF:=λm U H'=>∃(ys ln:List Str) (ls:J7) (Ln:Addr) (x4:Option V),U=[-.ref a,-.str z,-.ref F,-.ref Ln,x4]/\m=8*(129-ys.length)+ln.length/\ao H H'/\WD H' F ins gs ys ls/\H' Ln=-.lst (ln.map V.str)/\H Ln=none/\Ln∉ls/\ln.length<=8*ys.length+1/\WI ins gs z xs ys ln
 refine{I33,
  {_,[],[z],[],L0,_,rfl,rfl,S1.trans S2,{S2 _ _ q1,rfl,λi y l e=>(nomatch e)},q2,ao.free S1 hL0,by simp,by simp,by simp,λy q=>by rw[Qu.mp (q.resolve_left (by simp))];exact met.start,.inr (by simp),λy q=>(nomatch q)},?_}
 rintro m U H' ⟨ys,ln,ls,Ln,x4,rfl,rfl,SH,⟨hF',lls,hls⟩,hLn,hLn0,nLn,lln,wi⟩;have lys:ys.length<=xs.length:=Bf.pigeon _ _ wi.nd λy hy=>wi.sub y (.inl hy);have FL:F≠Ln:=λe=>by rw[e,hLn]at hF';cases hF'
 refine i_test (aO (ai rfl (cw (aB {by simp[sizeLine],λp hp=>?_}))));ctx_has H' p H3 S3 q3 aI hp;refine{Ln,p,ln.map V.str,[],λ_=>true,rfl,rfl,SqL.of (S3 _ _ hLn),SqL.of q3,(λj x y _ h=>by simp at h),{_,rfl,?_} };have hLn3:=S3 _ _ hLn;have hF3:=S3 _ _ hF';have SH3:=SH.trans S3;have hls3:∀(i:Nat) y l,ys[i]?=-y->ls[i]?=-l->H3 l=-.lst ((nxS ins gs y).map V.str):=λi y l e1 e2=>S3 _ _ (hls i y l e1 e2);clear hls hF' hLn SH hp q3 S3;rcases List.eq_nil_or_concat ln with rfl|⟨l0,h,rfl⟩
 ·refine du ?_;exact bH (ai rfl (k F ys xs ls H3 SH3 hF met (wi.fin met) ⟨hF3,lls,hls3⟩))
 rw[List.concat_eq_append] at *;refine ifT (by simp) {_,λ_ _ h=>h,?_};kt_k;refine bj (F7 (ai rfl {i_tyL hLn3,Ln,_,.str h,rfl,rfl,hLn3,by simp,au ?_}));rw[show ((l0++[h]).map V.str).dropLast=l0.map V.str by simp];have hLn4:upd H3 Ln (.lst (l0.map V.str)) Ln=-.lst (l0.map V.str):=ae;have hF4:upd H3 Ln (.lst (l0.map V.str)) F=-.dK (fdK (aA ys) ls):=by rw[am FL];exact hF3
 have SH4:ao H (upd H3 Ln (.lst (l0.map V.str))):=aQ SH3 hLn0;have hls4:∀(i:Nat) y l,ys[i]?=-y->ls[i]?=-l->upd H3 Ln (.lst (l0.map V.str)) l=-.lst ((nxS ins gs y).map V.str):=λi y l e1 e2=>by rw[am λe=>nLn (by rw[<-e];exact Qg e2)];exact hls3 i y l e1 e2
 generalize upd H3 Ln (.lst (l0.map V.str))=H4 at *;rw[Qk,List.length_singleton]at lln;have hx:h∈xs:=wi.sub h (.inr (by simp));have dg:cO H4 F (.str h) (bi (fdK (aA ys) ls) (Sum.inr h)):=.inl {_,Sum.inr h,.inl hF4,rfl,rfl};refine s_if (i_test (eT (ai rfl (ai rfl {F,_,rfl,dg,_,rfl,?_}))));by_cases c:h∈ys
 ·refine ifF ?_ ?_
  ·cases q:bi (fdK (aA ys) ls) (Sum.inr h) with
   | none=>exact absurd c ((iy ⇑(zK lls)).mp q)
   | some _=>rfl
  exact{8*(129-ys.length)+l0.length,by simp,ys,l0,ls,Ln,_,rfl,rfl,SH4,⟨hF4,lls,hls4⟩,hLn4,hLn0,nLn,⇑(C7 lln),wi.old c}
 have hvn:=(iy (ls:=ls) ⇑(zK lls)).mpr c;refine ifT (by rw[hvn];rfl) ?_;have sth:=met.st h hx;kt_k;refine iJ (bS (s_list (bP (ak (ai rfl (ak (ai rfl (aB {a,li,lg,ins,gvs,gs,h,rfl,NA.same SH4,ok,sth,λl vs H5 S5 hl0 hl5 pr5=>{l,rfl,{_,SqL.of hl5},λL hL=>?_} }))))))));have lv:=aU pr5;have l7:=eO ins gs h;refine bU (xs:=vs) (λm H' ys=>ao H5 H'/\H' L=-.lst ys/\ys=((nxS ins gs h).take m).map V.str) {ag hL,ae,by simp} (λm H' ys p=>{p.2.1,SqL.of (p.1 _ _ hl5)}) (λm v H' ys e p=>?_) (λH6 us p=>?_)
 ·obtain⟨Sm,hd,rfl⟩:=p;obtain⟨p,hp,b,rfl,hb⟩:=dL pr5 m v e;have hm:m<vs.length:=(Qe.mp e).1;refine{b,_,rfl,SqT.of (Sm _ _ hb),rfl,?_};refine{_,_,rfl,au {_,_,rfl,au {rfl,by repeat' (first|exact trivial|refine{rfl,?_}),i_yes (ce ?_)} } };refine ai rfl (b9.mk hd hm (by rw[Qa,Qt];omega) {aQ Sm hL,ae,?_});have:(nxS ins gs h)[m]?=-p.2:=by unfold nxS;rw[Qi,hp];rfl
  rw[QX,this,Qp];rfl
 obtain⟨Sm,hd,rfl⟩:=p;have ln:(nxS ins gs h).length=vs.length:=by unfold nxS;rw[Qa,lv]
 rw[Qw ⇑(C6 lv ln)]at hd;have S46:=S5.trans Sm;have hF6:=S46 _ _ hF4;have hLn6:=S46 _ _ hLn4;have L4:H4 L=none:=ao.free S5 hL;refine ai rfl (ai rfl {F,_,rfl,iC.k (k:=Sum.inr h) hF6 (by have:=oD (xs:=aA ys) (as:=ls) (by unfold aA;rw[Qa];exact ye lls);omega),?_});rw[dY _ hvn,show fdK (aA ys) ls++[(Sum.inr h,V.ref L)]=fdK (aA (ys++[h])) (ls++[L]) by unfold fdK aA;rw[Qp,List.zip_append (by rw[Qa];exact zR lls),Qp];rfl];have FLh:F≠L:=λe=>by rw[<-e,hF4]at L4;cases L4
 have LnL:Ln≠L:=λe=>by rw[<-e,hLn4]at L4;cases L4
 have hF7:upd H6 F (.dK (fdK (aA (ys++[h])) (ls++[L]))) F=-.dK (fdK (aA (ys++[h])) (ls++[L])):=ae;have hL7:upd H6 F (.dK (fdK (aA (ys++[h])) (ls++[L]))) L=-.lst ((nxS ins gs h).map V.str):=by rw[am FLh.symm];exact hd
 have hLn7:upd H6 F (.dK (fdK (aA (ys++[h])) (ls++[L]))) Ln=-.lst (l0.map V.str):=by rw[am FL.symm];exact hLn6
 have hls7:∀(i:Nat) y l,(ys++[h])[i]?=-y->(ls++[L])[i]?=-l->upd H6 F (.dK (fdK (aA (ys++[h])) (ls++[L]))) l=-.lst ((nxS ins gs y).map V.str):=λi y l e1 e2=>by
  by_cases ci:i<ys.length
  ·rw[QO ci]at e1;rw[QO ⇑(B6 lls ci)]at e2;have:=hls4 i y l e1 e2;rw[am λe=>by rw[e,hF4]at this;cases this];exact S46 _ _ this
  have ei:i=ys.length:=by
   have:=(Qe.mp e1).1;simp at this;exact C5 ci this
  subst ei;rw[QK (Qh _),Nat.sub_self]at e1;rw[QK ⇑(ye lls),lls,Nat.sub_self]at e2;cases e1;cases e2;exact hL7
 have SH7:ao H (upd H6 F (.dK (fdK (aA (ys++[h])) (ls++[L])))):=aQ (SH4.trans S46) hF;generalize upd H6 F (.dK (fdK (aA (ys++[h])) (ls++[L])))=H7 at *;have w2:=wi.new met c;have nd2:=w2.nd;have lls2:(ls++[L]).length=(ys++[h]).length:=by simp[lls]
 have dg7:cO H7 F (.str h) (-.ref L):=eA (.inl hF7) nd2 (i:=ys.length) (by simp) (by rw[<-lls];simp);refine bj (aO (ai rfl (i_dget (ai rfl (ai rfl {F,_,rfl,dg7,gL hLn7 hL7 (by rw[Qa,Qa];omega) λN hN=>au ?_})))));ctx_has H7 N H8 S8 q8 aI hN;refine{8*(129-(ys++[h]).length)+(l0++nxS ins gs h).length,?_,ys++[h],l0++nxS ins gs h,ls++[L],N,_,rfl,rfl,SH7.trans S8,{S8 _ _ hF7,lls2,λi y l e1 e2=>S8 _ _ (hls7 i y l e1 e2)},by rw[q8,Qp],ao.free SH7 hN,λhm=>?_,?_,w2}
 ·have:(ys++[h]).length<=xs.length:=Bf.pigeon _ _ nd2 λy hy=>w2.sub y (.inl hy);rw[Qk,List.length_singleton]at this;simp only[Qk,List.length_singleton];omega
 ·obtain⟨i,hi,ei⟩:=Qo.mp hm;have:=hls7 i ((ys++[h])[i]'(⇑(wa lls2 hi))) N (Qc _) (by rw[Qc hi,ei]);rw[hN]at this;cases this
 simp only[Qk,List.length_singleton];omega
end
section
variable {os hs ks:List Str}
theorem Run.last {x w:Str} (r:Run ins gs x os w):os=[]\/∃ps y n,Run ins gs x ps y/\ps.length+1=os.length/\(n,w)∈az ins gs y:=by
 induction r with
 | nil=>exact .inl rfl
 | @cons z y w n os a b r ih =>
 refine .inr ?_;rcases ih with e|⟨ps,y',n',r',l,s⟩
 ·subst e;cases r;exact{[],z,n,.nil,rfl,a}
 exact{n::ps,y',n',.cons a b r',by simp[l],s}
theorem Run.cut {x w:Str} (r:Run ins gs x os w):∀k,k<=os.length->∃y,Run ins gs x (os.take k) y:=by
 induction r with
 | nil=>exact λk h=>{_,by rw[List.take_nil];exact .nil}
 | cons a b _ ih =>
 intro k h
 cases k with
 | zero=>exact{_,.nil}
 | succ k =>
 obtain⟨y,r'⟩:=ih k (~~~h);exact{y,.cons a b r'}
theorem tG:∀n,(∀os y,Run ins gs z os y->os.length<=n)->∃m,dS ins gs z m
 | 0,h=>{0,h,[],z,.nil,rfl}
 | n+1,h=>by
  by_cases c:∃os y,Run ins gs z os y/\os.length=n+1
  ·exact{n+1,h,c}
  refine tG n λos y r=>?_;have:=h os y r;have:os.length≠n+1:=λe=>c ⟨os,y,r,e⟩;omega
def LvI (ins:List Str) (gs:J8) (z:Str) (k:Nat) (hs:List Str):Prop:=hs.Nodup/\∀x,x∈hs↔∃os,os.length=k/\Run ins gs z os x
theorem LvI.next {k:Nat} (m:Met ins gs z xs) (l:LvI ins gs z k hs) (nd:ks.Nodup) (h:∀x,x∈ks↔∃y∈hs,x∈nxS ins gs y):LvI ins gs z (k+1) ks:=by
 refine{nd,λx=>(h x).trans {λ⟨y,hy,hx⟩=>?_,λ⟨os,e,r⟩=>?_} }
 ·obtain⟨os,e,r⟩:=(l.2 y).mp hy;obtain⟨p,hp,rfl⟩:=Qj.mp hx;exact{os++[p.1],by simp[e],r.snoc hp (m.st _ (m.closed (m.runs r m.start) hp))}
 rcases r.last with e0|⟨ps,y,n,r',e',s⟩
 ·rw[e0]at e;cases e
 exact{y,(l.2 y).mpr {ps,⋯,r'},Qj.mpr ⟨_,s,rfl⟩}
theorem LvI.end {k:Nat} (l:LvI ins gs z (k+1) []):∃n,dS ins gs z n:=by
 refine tG k λos y r=>Nat.le_of_not_lt λh=>?_;obtain⟨w,r'⟩:=r.cut (k+1) h;exact absurd ((l.2 w).mpr {_,by rw[Qt];exact GD h,r'}) (by simp)
theorem LvI.few {k:Nat} (m:Met ins gs z xs) (l:LvI ins gs z k hs):hs.length<=xs.length/\∀x∈hs,x∈xs:=by
 have:∀x∈hs,x∈xs:=λx hx=>by
  obtain⟨os,_,r⟩:=(l.2 x).mp hx;exact m.runs r m.start
 exact{Bf.pigeon _ _ l.1 this,this}
end
theorem vV (kvs:List (Key × V)) (k:Key) (v:V):(ca kvs k v).length<=kvs.length+1:=by
 unfold ca
 split <;> simp
theorem Bo (ks:List Str) (x:Str):ca (knK (aA ks)) (Sum.inr x) (.bl true)=knK (aA (Bf.bo ks [x])):=by
 by_cases c:x∈ks
 ·rw[Bf.lH c];have hm:(Sum.inr x:Key)∈aA ks:=Qj.mpr ⟨x,c,rfl⟩;unfold ca;rw[cQ]
  cases q:bi (knK (aA ks)) (Sum.inr x) with
  | none=>exact absurd hm (jD.mp q)
  | some v =>
  rw[Option.isSome_some,QF rfl];unfold knK;rw[QR];refine List.map_congr_left λy _=>?_;by_cases e:y=Sum.inr x
  ·subst e;simp
  simp[e]
 rw[Bf.lG c,dY _ (jD.mpr λq=>by obtain⟨y,hy,e⟩:=Qj.mp q;cases e;exact c hy)];unfold knK aA;simp
theorem qD {x:Str}:∀{qs:J9},x∈qs.map (·.1)->∃n,(x,n)∈qs/\bi (aX qs) (Sum.inr x)=-.int n
 | [],h=>by simp at h
 | q::qs,h=>by
  by_cases e:q.1=x
  ·subst e;exact{q.2,by simp,bV (p:=((Sum.inr q.1:Key),V.int q.2)) rfl}
  obtain⟨n,h1,h2⟩:=qD (qs:=qs) (by
   rcases QP.mp h with z|z
   ·exact absurd z.symm e
   exact z)
  exact{n,by simp[h1],(bX (p:=((Sum.inr q.1:Key),V.int q.2)) λz=>e (Sum.inr.inj z)).trans h2}
theorem uW (qs:J9) (y:Str) (v:Int):∃qs':J9,ca (aX qs) (Sum.inr y) (.int v)=aX qs'/\(∀x,x∈qs.map (·.1)->x∈qs'.map (·.1))/\y∈qs'.map (·.1)/\∀q∈qs',q∈qs\/q.2=v:=by
 unfold ca;by_cases a:((aX qs).any λkv=>decide (kv.1=(Sum.inr y:Key)))=true
 ·rw[QF a];refine{qs.map λq=>if q.1=y then (q.1,v) else q,?_,λx hx=>?_,?_,λq hq=>?_}
  ·unfold aX;rw[QR,QR];refine List.map_congr_left λq _=>?_;show (if (Sum.inr q.1:Key)=Sum.inr y then ((Sum.inr q.1:Key),V.int v) else (Sum.inr q.1,V.int q.2))=((Sum.inr (if q.1=y then (q.1,v) else q).1:Key),V.int (if q.1=y then (q.1,v) else q).2);by_cases e:q.1=y
   ·rw[QF e,QF (by rw[e])]
   rw[QE e,QE λz=>e (Sum.inr.inj z)]
  ·obtain⟨q,hq,rfl⟩:=Qj.mp hx;refine Qj.mpr {_,Qj.mpr ⟨q,hq,rfl⟩,?_}
   split <;> rfl
  ·obtain⟨p,hp,e⟩:=List.any_eq_true.mp a;obtain⟨q,hq,rfl⟩:=Qj.mp hp;have e:q.1=y:=Sum.inr.inj (XM e);refine Qj.mpr {_,Qj.mpr ⟨q,hq,rfl⟩,?_};rw[QF e];exact e
  obtain⟨p,hp,rfl⟩:=Qj.mp hq;by_cases e:p.1=y
  ·rw[QF e];exact .inr rfl
  rw[QE e];exact .inl hp
 rw[QE a];refine{qs++[(y,v)],by unfold aX;rw[Qp];rfl,λx hx=>by rw[Qp];exact XX _ hx,by simp,λq hq=>?_};rcases Qq.mp hq with h|h
 ·exact .inl h
 rw[Qu]at h;rw[h];exact .inr rfl
def LvD (xs:List Str) (qs:J9):Prop:=(∀x∈xs,x∈qs.map (·.1))/\∀q∈qs,0<=q.2/\q.2<=200
def jS:Sp:=λvs H Q _=>∃(F:Addr) (ins:List Str) (gs:J8) (z:Str) (ys xs:List Str) (ls:J7),vs=[.ref F,.str z]/\WD H F ins gs ys ls/\Met ins gs z xs/\NetOk ins gs/\ys.Perm xs /\
 (∀d qs H',ao H H'->(∃n,dS ins gs z n)->H' d=-.dK (aX qs)->LvD xs qs->Q (.ref d) H')/\(∀H',ao H H'->(¬∃n,dS ins gs z n)->Q .non H')
section
theorem lU:FnScope ["ways", "standing", "found", "here", "k", "ahead", "one", "there"] ["ways", "standing"] (aC (top 44)):=by fin2
theorem uL {f:Addr} {fd:FuncData} (Fu:Fun K "_law_levels" "_law_levels" (top 44) f fd) (T:Txt K mg TT):FnOk P w K mg base CX0 1 f fd ["ways", "standing"] jS:=by
 have S:=lU;w_up;obtain⟨F,ins,gs,z,ys,xs,ls,rfl,⟨hF,lls,hls⟩,met,ok,pm,k1,k2⟩:=h;have hu:=dC hr;refine'{?_,?bb,?_}
 case bb =>
  walk_at "b";exact aF 2 S.nd im;exact aF 3 S.nd (aZ (aa (pv 1) af aj));walk_at "f";exact(cA (by rfl) T.n_range (aa (ap aR (aE vf (by rfl) T.n_len QL (aa (pv 0) af aj)) ad) af));exact(bR 4 S.nd);walk_at "p";exact aF 5 S.nd im;walk_at "f";exact(bw (pv 3));exact(bR 6 S.nd);walk_at "p";exact(gx hu (pv 2) (pv 6) (pv 4) rfl);walk_at "f";exact(bw (bC hu (pv 0) (pv 6)));exact(bR 7 S.nd);walk_at "p";exact(gx hu (pv 5) (pv 7) cW rfl);exact aF 3 S.nd (dI (lr rfl) (by rfl) T.n_list XB (aa (pv 5) af aj));exact(aL (kB hr.units) (pv 3) (aZ af) (aN _));exact(aJ (pv 2));exact(aJ oa)
 x_go;have few:=met.few7 ok;have g7:=ok.g7;have lys:=pm.length_eq;have ndy:=pm.nodup_iff.mpr met.nd;refine s_seq (bj ?_);intro D hD;refine au ?_;ctx_has H D H1 S1 q1 aI hD;kt_k;refine bj (cw (ak (ai rfl (aB {by simp[sizeLine],λL0 hL0=>au ?_}))));ctx_has H1 L0 H2 S2 q2 aI hL0;have S12:=S1.trans S2;have lk:(fdK (aA ys) ls).length=ys.length:=by rw[oD (by unfold aA;rw[Qa];exact ye lls)];exact lls
 kt_k;refine s_for (s_rng1 (ak (aO (c7 (ak (ai rfl (aB {F,_,rfl,S12 _ _ hF,i_c (b_ (aB ?_))}))))))) ;rw[lk];refine{_,rfl,⋯,⋯,?_};rw[show ((ys.length:Int)+1).toNat=ys.length+1 by omega];let I34:IvF:=λi U H'=>(∃(hs:List Str) (Hn:Addr) (kvs:J9) (x4 x5 x6 x7:Option V),U=[-.ref F,-.str z,-.ref D,-.ref Hn,x4,x5,x6,x7]/\ao H H'/\H' D=-.dK (aX kvs)/\(kvs.length<=128*i/\(∀q∈kvs,0<=q.2/\q.2<=200)/\∀os x,Run ins gs z os x->os.length<i->x∈kvs.map (·.1))/\H' Hn=-.lst (hs.map V.str)/\LvI ins gs z i hs/\hs≠[])
 refine dO (n:=ys.length+1) I34
  {[z],L0,[],_,_,_,_,rfl,S12,S2 _ _ q1,{by simp,(by simp),λos x _ h=>absurd h (Nat.not_lt_zero _)},q2,{by simp,λx=>{λh=>{[],rfl,by rw[Qu]at h;rw[h];exact .nil},λ⟨os,e,r⟩=>by rw[Xb]at e;subst e;cases r;simp} },by simp} (λi U H' hi pv=>?_) (λU H' pv=>?_)
 ·obtain⟨hs,Hn,kvs,x4,x5,x6,x7,rfl,SH,hD',⟨lkv,bnd,old⟩,hHn,lv,ne⟩:=pv;obtain⟨lhs,subx⟩:=lv.few met;refine au ?_;kt_k;refine bj ?_;intro Ah hAh;refine au ?_;ctx_has H' Ah H3 S3 q3 aI hAh;have Ah0:H Ah=none:=ao.free SH hAh;have AD:Ah≠D:=λe=>by rw[e,hD']at hAh;cases hAh
  have AN:Ah≠Hn:=λe=>by rw[e,hHn]at hAh;cases hAh
  have ND:Hn≠D:=λe=>by rw[e,hD']at hHn;cases hHn
  kt_k;refine s_for (s_list (ai rfl {Hn,rfl,{_,SqL.of (S3 _ _ hHn)},?_}));let Iv:=λ(j:Nat) (R:Str->Prop) (G:Hp)=>ao H G/\G Hn=-.lst (hs.map V.str)/\(∃kvs:J9,G D=-.dK (aX kvs)/\kvs.length<=128*i+j/\(∀q∈kvs,0<=q.2/\q.2<=200)/\(∀os x,Run ins gs z os x->os.length<i->x∈kvs.map (·.1))/\∀y∈hs.take j,y∈kvs.map (·.1))/\∃ks:List Str,G Ah=-.dK (knK (aA ks))/\ks.Nodup/\∀x,x∈ks↔R x;let I35:IvF:=λj U G=>(∃x6 x7:Option V,U=[-.ref F,-.str z,-.ref D,-.ref Hn,-.int (0+(i:Int)),-.ref Ah,x6,x7])/\Iv j (λx=>∃y∈hs.take j,x∈nxS ins gs y) G
  refine dw (xs:=hs.map V.str) I35
   {⟨_,_,rfl⟩,SH.trans S3,S3 _ _ hHn,{kvs,S3 _ _ hD',⇑(GC lkv),bnd,old,by simp},[],q3,by simp,by simp} (λj U G _ pv=>SqL.of pv.2.2.1) (λj v U G hv pv=>?_) (λU G pv=>?_)
  ·obtain⟨⟨x6,x7,rfl⟩,SG,gHn,⟨kv2,gD,lkv2,bnd2,old2,seen2⟩,ks,gA,ndk,mk⟩:=pv;rw[Qi]at hv
   cases ey:hs[j]? with
   | none=>rw[ey]at hv;cases hv
   | some y =>
   rw[ey]at hv;cases hv;have hj:=(Qe.mp ey).1;have hyx:=subx y (Qg ey);refine au ?_;kt_k;refine iJ (ai rfl (ai rfl (ai rfl {D,_,rfl,iC.k (k:=Sum.inr y) gD (by unfold aX;rw[Qa];omega),?_})));have lk2:=vV (aX kv2) (Sum.inr y) (.int (0+(i:Int)));obtain⟨kv3,ek,sub3,in3,val3⟩:=uW kv2 y (0+(i:Int));rw[ek]at lk2 ⊢;clear ek;unfold aX at lk2;rw[Qa,Qa]at lk2;have SG2:ao H (upd G D (.dK (aX kv3))):=aQ SG hD;have gD2:upd G D (.dK (aX kv3)) D=-.dK (aX kv3):=ae;have gA2:upd G D (.dK (aX kv3)) Ah=-.dK (knK (aA ks)):=by rw[am AD];exact gA
   have gHn2:upd G D (.dK (aX kv3)) Hn=-.lst (hs.map V.str):=by rw[am ND];exact gHn
   generalize upd G D (.dK (aX kv3))=G2 at *;obtain⟨ix,hix,eix⟩:=Qo.mp (pm.mem_iff.mpr hyx);have ex:ys[ix]?=-y:=by rw[Qc hix,eix]
   obtain⟨b,eb⟩:∃b,ls[ix]?=some b:={_,Qc ⇑(GB lls lys lk hix)};have hb:=hls ix y b ex eb;have tk:hs.take (j+1)=hs.take j++[y]:=by rw[QX,ey];rfl
   have bnd3:∀q∈kv3,0<=q.2/\q.2<=200:=λq hq=>(val3 q hq).elim (bnd2 q) λe=>by rw[e];omega
   have seen3:∀y∈hs.take (j+1),y∈kv3.map (·.1):=λw hw=>by
    rw[tk]at hw;rcases Qq.mp hw with h|h
    ·exact sub3 w (seen2 w h)
    rw[Qu]at h;rw[h];exact in3
   refine s_for (s_list (i_dget (ai rfl (ai rfl {F,_,rfl,eA (.inl (SG2 _ _ hF)) ndy ex eb,b,rfl,{_,SqL.of (SG2 _ _ hb)},?_}))));let I36:IvF:=λl U G=>(∃x7:Option V,U=[-.ref F,-.str z,-.ref D,-.ref Hn,-.int (0+(i:Int)),-.ref Ah,-.str y,x7])/\Iv (j+1) (λx=>(∃y∈hs.take j,x∈nxS ins gs y)\/x∈(nxS ins gs y).take l) G
   refine dw (xs:=(nxS ins gs y).map V.str) I36
    {⟨_,rfl⟩,SG2,gHn2,{kv3,gD2,⇑(GA lkv2 lk2),bnd3,λos x r h=>sub3 x (old2 os x r h),seen3},ks,gA2,ndk,~~~mk} (λl U G _ pv=>SqL.of (pv.2.1 _ _ hb)) (λl v U G hv pv=>?_) (λU G pv=>?_)
   ·obtain⟨⟨x7,rfl⟩,SG,gHn,⟨kv4,gD,lkv4,r4⟩,ks,gA,ndk,mk⟩:=pv;rw[Qi]at hv
    cases eu:(nxS ins gs y)[l]? with
    | none=>rw[eu]at hv;cases hv
    | some u =>
    rw[eu]at hv;cases hv
    have lks:ks.length<=xs.length:=Bf.pigeon _ _ ndk λx hx=>by
     rcases(mk x).mp hx with⟨y',hy',q⟩|q
     ·obtain⟨p,hp,rfl⟩:=Qj.mp q;exact met.closed (subx y' (List.mem_of_mem_take hy')) hp
     obtain⟨p,hp,rfl⟩:=Qj.mp (List.mem_of_mem_take q);exact met.closed hyx hp
    refine au ?_;refine iJ (i_c (ai rfl (ai rfl {Ah,_,rfl,iC.k (k:=Sum.inr u) gA (by unfold knK aA;rw[Qa,Qa];omega),?_})));rw[Bo];refine{⟨_,rfl⟩,aQ SG Ah0,by rw[am AN.symm];exact gHn,{kv4,by rw[am AD.symm];exact gD,lkv4,r4},_,ae,Bf.eC _ _ ndk,λx=>?_};rw[Bf.eV,mk,QX,eu];show (_\/_)\/x∈[u]↔_\/x∈_++[u];rw[Qq,or_assoc]
   obtain⟨⟨x7,rfl⟩,SG,gHn,⟨kv4,gD,lkv4,r4⟩,ks,gA,ndk,mk⟩:=pv;rw[Qa,Qw (Qh _)]at mk;refine{⟨_,_,rfl⟩,SG,gHn,⟨kv4,gD,lkv4,r4⟩,ks,gA,ndk,λx=>(mk x).trans ?_};rw[tk];simp[or_and_right,exists_or]
  obtain⟨⟨x6,x7,rfl⟩,SG,gHn,⟨kv2,gD,lkv2,bnd2,old2,seen2⟩,ks,gA,ndk,mk⟩:=pv;rw[Qa]at lkv2 mk seen2;rw[Qw (Qh _)]at mk seen2
  have all2:∀os x,Run ins gs z os x->os.length<i+1->x∈kv2.map (·.1):=λos x r h=>by
   by_cases c:os.length<i
   ·exact old2 os x r c
   exact seen2 x ((lv.2 x).mpr {os,⇑(yh h c),r})
  have lv2:=lv.next met ndk mk
  try dsimp only
  kt_k;refine bj (c7 (ak (ai rfl (aB {Ah,_,rfl,.inl gA,λHm hHm=>au ?_}))));rw[show (knK (aA ks)).map (λp=>kV p.1)=ks.map V.str by unfold knK aA;rw[QR,QR];rfl];ctx_has G Hm G3 S3 q3 aI hHm;refine s_if (i_test (aO (ai rfl (cw (aB {by simp[sizeLine],λp hp=>?_})))));ctx_has G3 p G4 S4 q4 aI hp;refine{Hm,p,ks.map V.str,[],λ_=>true,rfl,rfl,SqL.of (S4 _ _ q3),SqL.of q4,(λj x y _ h=>by simp at h),{_,rfl,?_} };have SG4:=SG.trans (S3.trans S4)
  cases ks with
  | nil =>
   refine ce ?_
   exact bH (ai rfl (k1 _ _ _ SG4 lv2.end ((S3.trans S4) _ _ gD) {λx hx=>by
    obtain⟨os,r⟩:=met.to hx;refine all2 os x r (Nat.lt_of_not_le λh=>?_);obtain⟨w,r'⟩:=r.cut (i+1) h
    exact absurd ((lv2.2 w).mpr {_,by rw[Qt];exact Gz h,r'}) (by simp),bnd2}))
  | cons u ks =>
  refine du ?_;kt_k;exact{_,Hm,kv2,_,_,_,_,rfl,SG4,(S3.trans S4) _ _ gD,{⋯,bnd2,all2},S4 _ _ q3,lv2,by simp}
 obtain⟨hs,Hn,kvs,x4,x5,x6,x7,rfl,SH,hD',lkv,hHn,lv,ne⟩:=pv
 try dsimp only
 refine bH (i_c (k2 _ SH λ⟨n,l⟩=>?_))
 cases hs with
 | nil=>exact ne rfl
 | cons x hs =>
 obtain⟨os,e,r⟩:=(lv.2 x).mp (by simp);have:=l.lt met r;exact Gw lys lk e this
end
section
theorem SD.fat (h:SD H F ins gs xs) (nd:xs.Nodup):FAt H F ins gs (·∈xs):=λy hy=>by
 obtain⟨as,r,las,sts⟩:=h;obtain⟨i,hi,e⟩:=Qo.mp hy;have e1:xs[i]?=-y:=by rw[Qc hi,e]
 obtain⟨b,e2⟩:∃b,as[i]?=some b:={_,Qc ⋯};exact{b,eA r nd e1 e2,sts i y b e1 e2}
theorem SD.frz {kvs:List (Key × V)} {o:Obj} (h:SD H F ins gs xs) (r:Rd H F (.dK kvs)) (e:∀{as:J7},Rd H F (.dK (fdK (aA xs) as))->kvs=fdK (aA xs) as):SD (upd H F (.frz o (.dK kvs))) F ins gs xs:=by
 obtain⟨as,r2,las,sts⟩:=h;refine{as,.inr {o,by rw[<-e r2];exact ae},las,λi x b e1 e2=>?_};obtain⟨vs,h1,h2⟩:=sts i x b e1 e2;refine{vs,by rw[am (il r h1 (λ_ z=>nomatch z) λ_ _ z=>nomatch z)];exact h1,bZ (λv s ⟨c,ec,q⟩=>{c,ec,?_}) h2};rw[am (il r q (λ_ z=>nomatch z) λ_ _ z=>nomatch z)];exact q
theorem vS {u v:HO} {a:Addr} (r:Rd H a u) (f:Fz u) (r2:Rd H a v) (f2:Fz v):u=v:=by
 rcases r with r|⟨o,r⟩ <;> rcases r2 with r2|⟨o2,r2⟩ <;> rw[r]at r2 <;> cases r2 <;> first|rfl|exact f.elim|exact f2.elim
end
def eB (ins:List Str) (gs:J8) (xs:List Str):Bool:=xs.all λh=>(az ins gs h).all λp=>decide (p.2∈xs)
def jT:Sp:=λvs H Q _=>∃(F:Addr) (ins:List Str) (gs:J8) (xs:List Str),vs=[.ref F]/\SD H F ins gs xs/\xs.Nodup/\xs.length<=5000/\NetOk ins gs/\∀H',ao H H'->Q (.bl (eB ins gs xs)) H'
theorem gg:eB ins gs xs=true↔∀h∈xs,∀p∈az ins gs h,p.2∈xs:=by
 unfold eB;simp[QM]
theorem u5 {ta:TA} (q:ta U H λvs H1=>∃l ts,vs=[.ref l]/\SqL K H1 l (ts.map V.str)/\ts.length<4000/\∀(p:Addr) (ss:List Str),H1 p=none->yV ts ss->Q (.ref p) (upd H1 p (.lst (ss.map V.str)))):pk K ta U H Q:=q
theorem w4 {neg:Bool} {xs ys:List Str} (h1:SqL K H a (xs.map V.str)) (h2:SqL K H b (ys.map V.str)) (q:Q (.bl (if neg then !decide (xs=ys) else decide (xs=ys))) H):rj K neg (.ref a) (.ref b) H Q:=by
 refine{a,b,_,_,λj=>decide (xs[j]?=ys[j]?),rfl,rfl,h1,h2,λj x y e1 e2=>?_,?_}
 ·rw[Qi]at e1 e2
  cases c1:xs[j]? with
  | none=>rw[c1]at e1;cases e1
  | some u =>
  cases c2:ys[j]? with
  | none=>rw[c2]at e2;cases e2
  | some v =>
  rw[c1]at e1;rw[c2]at e2;cases e1;cases e2;have q:=EqD.flat (K:=K) (H:=H) (n:=8) (x:=V.str u) (y:=V.str v) rfl rfl
  have e:eqV (.str u) (.str v)=decide (-u=-v):=by
   show decide (u=v)=_;simp
  rw[e]at q;show EqD K H 8 (V.str u) (V.str v) (decide (xs[j]?=ys[j]?));rw[c1,c2];exact q
 have e:((xs.map V.str).length==(ys.map V.str).length&&(List.range (xs.map V.str).length).all λj=>decide (xs[j]?=ys[j]?))=decide (xs=ys):=by
  rw[Qa,Qa];by_cases c:xs=ys
  ·subst c;rw[QS rfl,beq_self_eq_true,Bool.true_and,QM];intro j _;exact QS rfl
  rw[QC c];refine Xc.mpr λz=>c ?_;rw[Xj,QM]at z;obtain⟨z1,z2⟩:=z;have z1:xs.length=ys.length:=XM z1;refine List.ext_getElem? λj=>?_;by_cases cj:j<xs.length
  ·exact XM (z2 j (List.mem_range.mpr cj))
  rw[Xd ⋯,Xd ⋯]
 rw[e];exact q
noncomputable def xT (ss:List Str):Bool:=@decide (ss.Nodup/\ss.Pairwise leT) (Classical.propDecidable _)
theorem ii:xT ss=true↔ss.Nodup/\ss.Pairwise leT:=by
 unfold xT;exact @XA _ (Classical.propDecidable _)
theorem vG {ts:List Str} (h:yV ts ss):decide (ts=ss)=xT ts:=by
 by_cases c:ts=ss
 ·rw[QS c,c];exact(ii.mpr ⟨h.1,h.2.2⟩).symm
 rw[QC c];refine(Xc.mpr λz=>c ?_).symm;obtain⟨z1,z2⟩:=ii.mp z;exact jW z2 h.2.2 ((List.perm_ext_iff_of_nodup z1 h.1).mpr λx=>(h.2.1 x).symm)
noncomputable def kz (n:Nat) (ss:List Str):Bool:=ss.all (stB n)&&xT ss
def mE:Sp:=λvs H Q _=>∃(a li lg:Addr) (ins:List Str) (gvs:List V) (gs:J8) (p:Addr) (ss:List Str),vs=[.ref a,.ref p]/\NAt H a li lg ins gvs gs/\NetOk ins gs/\H p=-.lst (ss.map V.str)/\ss.length<4000/\(∀x∈ss,x.length<=1000)/\∀H',ao H H'->Q (.bl (kz (aq ins gs).length ss)) H'
theorem v9 (h:kz n ss=true):(∀x∈ss,StOk n x)/\ss.Nodup/\ss.Pairwise leT:=by
 unfold kz at h;rw[Xj,QM]at h;exact{λx hx=>nw.mp (h.1 x hx),ii.mp h.2}
theorem uu (nd:xs.Nodup) (l:as.length=xs.length):bB [] (cH (xs.zip (as.map V.ref)))=fdK (aA xs) as:=by
 suffices h:∀(pre:List Str) (pas:J7),pas.length=pre.length->(pre++xs).Nodup->bB (fdK (aA pre) pas) (cH (xs.zip (as.map V.ref)))=fdK (aA (pre++xs)) (pas++as) from h [] [] rfl nd
 clear nd
 induction xs generalizing as with
 | nil=>intro pre pas h _;simp at l;subst l;simp[cH,bB]
 | cons x xs ih =>
 cases as with
 | nil=>simp at l
 | cons a as =>
 intro pre pas h nd;show bB (ca (fdK (aA pre) pas) (Sum.inr x) (.ref a)) (cH (xs.zip (as.map V.ref)))=_;have nx:x∉pre:=λhx=>(Xw.mp nd).2.2 x hx x (by simp) rfl;rw[dY _ ((iy h).mpr nx),<-xh h,ih (~~~l) (pre++[x]) (pas++[a]) (by simp[h]) (~~~nd)];simp
section
theorem nO:FnScope ["steps", "here"] ["steps"] (aC (top 23)):=by fin2
theorem qk {f:Addr} {fd:FuncData} (Fu:Fun K "is_closed" "is_closed" (top 23) f fd) (T:Txt K mg TT):FnOk P w K mg base CX0 1 f fd ["steps"] jT:=by
 have S:=nO;w_up;obtain⟨F,ins,gs,xs,rfl,sd,nd,few,ok,k⟩:=h;have hu:=dC hr;refine'{?_,?bb,?_}
 case bb =>
  walk_at "b";refine' n8 ?_;rotate_left 1;walk_at "f";exact(eR (pv 0));exact(bR 1 S.nd);walk_at "p";exact(fe (eQ (aE (gh rfl) (by rfl) T.n_all PyProof.Rows.boot_all (aa (dB "step" [("steps", 0)] (bw (bC hu (pv 0) (pv 1))) (λ_ _ _ _=>(AX (AZ hu (aD (jF (K:=K) rfl) (pv 0) ad) (pv 1))))) af))));exact(aJ cW);exact(aJ cW)
 x_go;obtain⟨as,r,las,sts⟩:=id sd;have lk:(fdK (aA xs) as).length=xs.length:=by unfold fdK aA;simp[las]
 kt_k;refine sV r trivial λo=>?_
 have sd2:SD (upd H F (.frz o (.dK (fdK (aA xs) as)))) F ins gs xs:=sd.frz r λr2=>by
  injection vS r trivial r2 trivial
 have hF2:upd H F (.frz o (.dK (fdK (aA xs) as))) F=-.frz o (.dK (fdK (aA xs) as)):=ae;have bk:∀{H':Hp},ao (upd H F (.frz o (.dK (fdK (aA xs) as)))) H'->ao H (back H F H'):=λS=>dQ r S;generalize upd H F (.frz o (.dK (fdK (aA xs) as)))=H2 at *;refine s_for (fE (ai rfl {F,o,_,rfl,hF2,?_}));let I37:IvF:=λi σ' H'=>(∃x1,σ'=[-.ref F,x1])/\ao H2 H'/\∀i'<i,∀h,xs[i']?=-h->((az ins gs h).all λp=>decide (p.2∈xs))=true;refine iw I37 {⟨_,rfl⟩,ao.refl _,λi' h=>absurd h (Nat.not_lt_zero _)} (λi σ' H' _ pv=>pv.2.1 _ _ hF2) (λi k' v σ' H' e pv=>?_) (λσ' H' pv=>?_)
 ·obtain⟨⟨x1,rfl⟩,Sm,no⟩:=pv;obtain⟨x,b,e1,e2,rfl,rfl⟩:=kW e;have hx:=Qg e1;obtain⟨b',dg,vs,hvs,pvs⟩:=(sd2.same Sm).fat nd x hx;have rF:Rd H' F (.dK (fdK (aA xs) as)):=.inr {o,Sm _ _ hF2};have lvs:vs.length=(az ins gs x).length:=by have:=aU pvs;unfold cX at this;rwa [Qa]at this
  have l7:=eO ins gs x;have g7:=ok.g7;refine au ?_;kt_k;refine i_not (i_tB (c7 (ak (bS (s_list (i_dget (ai rfl (ai rfl {F,_,rfl,dg,b',rfl,{_,SqL.of hvs},λL hL=>?_}))))))));let I38:IvC:=λm H3 ys=>ao H' H3/\H3 L=-.lst ys/\ys=(((az ins gs x).take m).map λp=>decide (p.2∈xs)).map V.bl;refine bU (xs:=vs) I38 {ag hL,ae,rfl} (λm H' ys p=>{p.2.1,SqL.of (p.1 _ _ hvs)}) (λm v H3 ys e p=>?_) (λH3 ys p=>?_)
  ·obtain⟨S3,hd,rfl⟩:=p;obtain⟨p,b2,hp,rfl,hb2⟩:=gT pvs e;have hm:m<vs.length:=(Qe.mp e).1;refine au {by repeat' (first|exact trivial|refine{rfl,?_}),i_yes (ce ?_)};refine F6 (aO (ai rfl (i_c (i_ixT (S3 _ _ hb2) rfl (ai rfl ?_)))));refine{F,bi (fdK (aA xs) as) (Sum.inr p.2),rfl,.inl {_,Sum.inr p.2,nV S3 rF,rfl,rfl},?_}
   have dv:(bi (fdK (aA xs) as) (Sum.inr p.2)).isSome=decide (p.2∈xs):=by
    by_cases c:p.2∈xs
    ·rw[QS c]
     cases hv:bi (fdK (aA xs) as) (Sum.inr p.2) with
     | none=>exact absurd c ((iy las).mp hv)
     | some _=>rfl
    rw[QC c,(iy las).mpr c];rfl
   rw[dv];refine b9.mk hd hm (by rw[Qa,Qa,Qt];omega) {aQ S3 hL,ae,?_};rw[QX,hp,XE,Qp,Qp];rfl
  obtain⟨S3,hd,rfl⟩:=p;rw[lvs,Qw (Qh _)]at hd;refine aB {L,_,rfl,SqL.of hd,?_};refine{_,rfl,?_};rw[List.all_map];by_cases c:((az ins gs x).all λp=>decide (p.2∈xs))=true
  ·have e:((az ins gs x).all (id∘λp=>decide (p.2∈xs)))=true:=c;rw[e];refine du ?_;lk;refine{⟨_,rfl⟩,Sm.trans S3,λi' hi' h eh=>?_};by_cases ci:i'<i
   ·exact no i' ci h eh
   have:i'=i:=by omega
   subst this;rw[e1]at eh;cases eh;exact c
  have e:((az ins gs x).all (id∘λp=>decide (p.2∈xs)))=false:=Xc.mpr c;rw[e];refine ce ?_;lk;refine{(Sm.trans S3) _ _ hF2,?_};have hb:eB ins gs xs=false:=Xc.mpr λz=>c (QM.mp z x hx);have:=k _ (bk (Sm.trans S3));rwa [hb]at this
 obtain⟨⟨x1,rfl⟩,Sm,no⟩:=pv;refine{Sm _ _ hF2,?_};lk
 have hb:eB ins gs xs=true:=QM.mpr λh hh=>by
  obtain⟨i,hi,e⟩:=Qo.mp hh;exact no i (by rw[lk];exact hi) h (by rw[Qc hi,e])
 have:=k _ (bk Sm);rwa [hb]at this
theorem pS:FnScope ["net", "thing"] ["net", "thing"] (aC (top 22)):=by fin2
theorem rH {f:Addr} {fd:FuncData} (Fu:Fun K "is_paper" "is_paper" (top 22) f fd) (T:Txt K mg TT) (f_is_standing:Fn P w K mg base "is_standing" ["net", "thing"] 2 nA):FnOk P w K mg base CX0 3 f fd ["net", "thing"] mE:=by
 have S:=pS;w_up;obtain⟨a,li,lg,ins,gvs,gs,p,ss,rfl,NA,ok,hp,few,len,k⟩:=h;refine'{?_,?bb,?_}
 case bb =>
  walk_at "b";exact(PW.pt (fj (fe (eQ (aE cJ (by rfl) T.n_isinstance Xp (aa (pv 1) (aa (fF (v:=.ty "list") (by rfl) T.n_list XB rfl) af aj) aj)))) (eP (fe (eQ (aE (gh rfl) (by rfl) T.n_all PyProof.Rows.boot_all (aa (dB "part" [("net", 0)] (bw (pv 1)) (λ_ _ _ _=>(a8 f_is_standing hr (aa (pv 1) (aa (pv 0) af aj) aj)))) af)))))));exact(aJ cW);exact(aJ (di (kB hr.units) (pv 1) (rm rfl (by rfl) T.n_sorted (by rfl) T.n_set (aa (pv 1) af aj)) (aN _)))
 x_go;lk;refine{_,_,_,_,rfl,TyOf.lst hp,fq "list", ?_};refine{_,rfl,du ?_};refine i_not (i_tB (c7 (ak (bS (s_list (ai rfl {p,rfl,{_,SqL.of hp},λL hL=>?_}))))));refine bU (xs:=ss.map V.str) (λm H3 ys=>ao H H3/\H3 L=-.lst ys/\ys=((ss.take m).map (stB (aq ins gs).length)).map V.bl) {ag hL,ae,rfl} (λm H' ys pv=>{pv.2.1,SqL.of (pv.1 _ _ hp)}) (λm v H3 ys e pv=>?_) (λH3 ys pv=>?_)
 ·obtain⟨S3,hd,rfl⟩:=pv;rw[Qi]at e
  cases ex:ss[m]? with
  | none=>rw[ex]at e;cases e
  | some x =>
  rw[ex]at e;cases e;have hm:m<ss.length:=(Qe.mp ex).1;refine au {by repeat' (first|exact trivial|refine{rfl,?_}),i_yes (ce ?_)};refine bP (ak (ai rfl (ak (ai rfl (aB {a,li,lg,ins,gvs,gs,x,rfl,NA.same S3,ok,len x (Qg ex),λH4 S4=>?_})))));refine b9.mk (S4 _ _ hd) (by rw[Qa];exact hm) (by rw[Qa,Qa,Qt];omega) {aQ (S3.trans S4) hL,ae,?_};rw[QX,ex,XE,Qp,Qp];rfl
 obtain⟨S3,hd,rfl⟩:=pv;rw[Qa,Qw (Qh _)]at hd;refine aB {L,_,rfl,SqL.of hd,?_};refine{_,rfl,?_};rw[List.all_map];by_cases c:ss.all (stB (aq ins gs).length)=true
 ·have e:ss.all (id∘stB (aq ins gs).length)=true:=c;rw[e];refine du ?_;lk;refine u5 (ak (ai rfl (aB {p,ss,rfl,SqL.of (S3 _ _ hp),few,λq s7 hq su=>?_})));refine w4 (SqL.of (ag hq _ _ (S3 _ _ hp))) (SqL.of ae) ?_;have:=k _ (S3.trans (ag (o:=.lst (s7.map V.str)) hq));unfold kz at this;rw[c,Bool.true_and,<-vG su]at this;exact this
 have e:ss.all (id∘stB (aq ins gs).length)=false:=Xc.mpr c;rw[e];refine ce ?_;lk;have:=k _ S3;unfold kz at this;rw[Xc.mpr c]at this;exact this
end
theorem Bp:PySem.W.kitOne K (.type "int") (.type "bool")=-false:=by with_unfolding_all rfl
def gj (H:Hp) (p:Addr) (bs:J7) (qs:J9):Prop:=H p=-.lst (bs.map V.ref)/\bs.length=qs.length/\∀(i:Nat) b q,bs[i]?=-b->qs[i]?=-q->H b=-.tup [.str q.1,.int q.2]
variable {qs:J9}
theorem gj.same {bs:J7} (S:ao H H') (h:gj H p bs qs):gj H' p bs qs:={S _ _ h.1,h.2.1,λi b q e1 e2=>S _ _ (h.2.2 i b q e1 e2)}
theorem gj.prs {bs:J7} (h:gj H p bs qs):Paired (qR H) (bs.map V.ref) (qs.map λq=>(q.1,V.int q.2)):=by
 refine fk (by rw[Qa,Qa,h.2.1]) λi v q e1 e2=>?_;rw[Qi]at e1 e2
 cases c1:bs[i]? with
 | none=>rw[c1]at e1;cases e1
 | some b =>
 cases c2:qs[i]? with
 | none=>rw[c2]at e2;cases e2
 | some q' =>
 rw[c1]at e1;rw[c2]at e2;cases e1;cases e2;exact{b,rfl,h.2.2 i b q' c1 c2}
theorem dN (qs:J9):(aX qs).map (·.1)=aA (qs.map (·.1)):=by unfold aX aA;rw[QR,QR];rfl
theorem kQ (nd:(qs.map (·.1)).Nodup):bB [] (cH (qs.map λq=>(q.1,V.int q.2)))=aX qs:=by
 have e:cH (qs.map λq=>(q.1,V.int q.2))=aX qs:=by unfold cH aX;rw[QR];rfl
 rw[e,gv _ _ (by rw[dN];exact gf nd) (λ_ _=>rfl),List.nil_append]
theorem fu (nd:(qs.map (·.1)).Nodup) {q:Str × Int} (h:q∈qs):bi (aX qs) (Sum.inr q.1)=-.int q.2:=by
 obtain⟨i,hi,e⟩:=Qo.mp h;refine eX (i:=i) (by rw[dN];exact gf nd) ?_;unfold aX;rw[Qi,Qc hi,e];rfl
theorem jE {qs:J9} {x:Str}:(bi (aX qs) (Sum.inr x)).isSome=decide (x∈qs.map (·.1)):=by
 cases q:bi (aX qs) (Sum.inr x) with
 | none =>
  have:=cU.mp q;rw[dN]at this;rw[QC λh=>this (Qj.mpr ⟨x,h,rfl⟩)];rfl
 | some v =>
 rw[QS]
 ·rfl
 refine Decidable.byContradiction λh=>?_
 have:bi (aX qs) (Sum.inr x)=none:=cU.mpr λz=>by
  rw[dN]at z;obtain⟨y,hy,e⟩:=Qj.mp z;cases e;exact h hy
 rw[this]at q;cases q
theorem kR (nd:(qs.map (·.1)).Nodup) (h:x∈qs.map (·.1)):∃n,(x,n)∈qs/\bi (aX qs) (Sum.inr x)=-.int n:=by
 obtain⟨q,hq,rfl⟩:=Qj.mp h;exact{q.2,hq,fu nd hq}
def ltV:Option V->Int->Bool
 | some (.int m),n=>decide (m<n)
 | _,_=>false
def mS (ins:List Str) (gs:J8) (qs:J9):Bool:=qs.all λq=>(az ins gs q.1).all λp=>ltV (bi (aX qs) (Sum.inr p.2)) q.2
def wH (qs:J9):Bool:=qs.all λq=>decide (0<=q.2)
noncomputable def shB (ins:List Str) (gs:J8) (z r:Str) (qs:J9):Bool:=wH qs&&kz (aq ins gs).length (qs.map (·.1))&&decide (z∈qs.map (·.1))&&eB ins gs (qs.map (·.1))&&mS ins gs qs&&decide (((qs.map (·.1)).filter λh=>decide ((az ins gs h).length=0))=[r])
def vI:Sp:=λvs H Q _=>∃(b:Addr) (x y:V),vs=[.ref b]/\H b=-.tup [x,y]/\Q (.bl true) H
def sP:Sp:=λvs H Q _=>∃i:Int,vs=[.int i]/\Q (.bl true) H
def vJ:Sp:=λvs H Q _=>∃(b:Addr) (x:Str) (n:Int),vs=[.ref b]/\H b=-.tup [.str x,.int n]/\Q (.bl (decide (0<=n))) H
def vM:Sp:=λvs H Q _=>∃(a li lg:Addr) (ins:List Str) (gvs:List V) (gs:J8) (p:Addr) (bs:J7) (qs:J9),vs=[.ref a,.ref p]/\NAt H a li lg ins gvs gs/\NetOk ins gs/\gj H p bs qs/\qs.length<4000/\(∀q∈qs,q.1.length<=1000)/\∀H',ao H H'->Q (.bl (wH qs&&kz (aq ins gs).length (qs.map (·.1)))) H'
def vN:Sp:=λvs H Q _=>∃(F N:Addr) (ins:List Str) (gs:J8) (qs:J9),vs=[.ref F,.ref N]/\SD H F ins gs (qs.map (·.1))/\(qs.map (·.1)).Nodup/\qs.length<=5000/\H N=-.dK (aX qs)/\N≠F/\eB ins gs (qs.map (·.1))=true/\NetOk ins gs/\∀H',ao H H'->Q (.bl (mS ins gs qs)) H'
def pD:Sp:=λvs H Q _=>∃(a li lg:Addr) (ins:List Str) (gvs:List V) (gs:J8) (z r:Str) (p:Addr) (bs:J7) (qs:J9),vs=[.ref a,.str z,.str r,.ref p]/\NAt H a li lg ins gvs gs/\NetOk ins gs/\StOk (aq ins gs).length z/\gj H p bs qs/\qs.length<4000/\(∀q∈qs,q.1.length<=1000)/\∀H',ao H H'->Q (.bl (shB ins gs z r qs)) H'
section
theorem rg:FnScope ["thing"] ["thing"] (aC (top 5)):=by fin2
variable {fd:FuncData} {f:Addr}
theorem yo (Fu:Fun K "is_pair" "is_pair" (top 5) f fd) (T:Txt K mg TT):FnOk P w K mg base CX0 1 f fd ["thing"] vI:=by
 have S:=rg;w_up;obtain⟨b,x,y,rfl,hb,k⟩:=h;refine{_,(a7 (aJ (f_ (aE cJ (by rfl) T.n_isinstance Xp (aa (pv 0) (aa (fF (v:=.ty "tuple") (by rfl) T.n_tuple PyProof.Rows.boot_tuple rfl) af aj) aj)) (fZ (di cE (aE aM (by rfl) T.n_len QL (aa (pv 0) af aj)) ad (aN _)))))),?_};x_go;refine bH (i_andV (c7 (ak (ai rfl (ak (i_c (aB {_,_,_,_,rfl,TyOf.tup hb,fq "tuple", {_,rfl,ce ?_} })))))));exact aO (c7 (ak (ai rfl (aB {b,_,rfl,.inr (SqT.of hb),i_c (i_eq rfl k)}))))
theorem pR:FnScope ["thing"] ["thing"] (aC (top 6)):=by fin2
theorem wx (Fu:Fun K "is_whole" "is_whole" (top 6) f fd) (T:Txt K mg TT):FnOk P w K mg base CX0 1 f fd ["thing"] sP:=by
 have S:=pR;w_up;obtain⟨i,rfl,q⟩:=h;refine{_,(a7 (aJ (f_ (aE cJ (by rfl) T.n_isinstance Xp (aa (pv 0) (aa (fF (v:=.ty "int") (by rfl) T.n_int PyProof.Rows.boot_int rfl) af aj) aj)) (fZ (rn (aE cJ (by rfl) T.n_isinstance Xp (aa (pv 0) (aa (fF (v:=.ty "bool") (by rfl) T.n_bool PyProof.Rows.boot_bool rfl) af aj) aj))))))),?_};x_go;lk;refine{_,_,_,_,rfl,TyOf.int i,fq "int", _,rfl,ce ?_};lk;exact{_,_,_,_,rfl,TyOf.int i,Bp,_,rfl,q}
theorem kg:FnScope ["thing"] ["thing"] (aC (top 28)):=by fin2
theorem yp (Fu:Fun K "is_numbered" "is_numbered" (top 28) f fd) (T:Txt K mg TT) (f_is_pair:Fn P w K mg base "is_pair" ["thing"] 1 vI) (f_is_whole:Fn P w K mg base "is_whole" ["thing"] 1 sP):FnOk P w K mg base CX0 2 f fd ["thing"] vJ:=by
 have S:=kg;w_up;obtain⟨b,x,n,rfl,hb,k⟩:=h;refine{_,(a7 (aJ (f_ (a8 f_is_pair hr (aa (pv 0) af aj)) (f_ (a8 f_is_whole hr (aa (aD bd (pv 0) ad) af)) (fZ (di wf (aD bd (pv 0) ad) ad (aN _))))))),?_};x_go;refine bH (i_andV (bP (ak (ai rfl (aB {b,_,_,rfl,hb,{_,rfl,ce ?_} })))));refine i_andV (bP (ak (aO (ai rfl (i_c (i_ixT hb rfl (aB {n,rfl,{_,rfl,ce ?_} })))))));exact aO (aO (ai rfl (i_c (i_ixT hb rfl (i_c (b_ k))))))
theorem iI:FnScope ["net", "thing"] ["net", "thing"] (aC (top 29)):=by fin2
theorem yu (Fu:Fun K "is_rest_paper" "is_rest_paper" (top 29) f fd) (T:Txt K mg TT) (f_is_numbered:Fn P w K mg base "is_numbered" ["thing"] 2 vJ) (f_is_paper:Fn P w K mg base "is_paper" ["net", "thing"] 3 mE):FnOk P w K mg base CX0 4 f fd ["net", "thing"] vM:=by
 have S:=iI;w_up;obtain⟨a,li,lg,ins,gvs,gs,p,bs,qs,rfl,NA,ok,⟨hp,lb,hb⟩,few,len,k⟩:=h;refine'{?_,?bb,?_}
 case bb =>
  walk_at "b";exact(PW.pt (fj (fe (eQ (aE cJ (by rfl) T.n_isinstance Xp (aa (pv 1) (aa (fF (v:=.ty "list") (by rfl) T.n_list XB rfl) af aj) aj)))) (eP (fe (eQ (aE (gh rfl) (by rfl) T.n_all PyProof.Rows.boot_all (aa (dB "part" [] (bw (pv 1)) (λ_ _ _ _=>(a8 f_is_numbered hr (aa (pv 0) af aj)))) af)))))));exact(aJ cW);exact(aJ (a8 f_is_paper hr (aa (pv 0) (aa (dB "part" [] (bw (pv 1)) (λ_ _ _ _=>(aD (jF (K:=K) rfl) (pv 0) ad))) af) aj)))
 x_go;kt_k;kt_k;kt_k;refine i_not (i_tB (c7 (ak (ai rfl (ak (i_c (aB {_,_,_,_,rfl,TyOf.lst hp,fq "list", {_,rfl,du ?_} })))))));refine i_not (i_tB (c7 (ak (bS (s_list (ai rfl {p,rfl,{_,SqL.of hp},λL hL=>?_}))))));refine bU (xs:=bs.map V.ref) (λm H3 ys=>ao H H3/\H3 L=-.lst ys/\ys=((qs.take m).map λq=>decide (0<=q.2)).map V.bl) {ag hL,ae,rfl} (λm H' ys pv=>{pv.2.1,SqL.of (pv.1 _ _ hp)}) (λm v H3 ys e pv=>?_) (λH3 ys pv=>?_)
 ·obtain⟨S3,hd,rfl⟩:=pv;rw[Qi]at e
  cases ex:bs[m]? with
  | none=>rw[ex]at e;cases e
  | some b =>
  rw[ex]at e;cases e;have hm:m<bs.length:=(Qe.mp ex).1;obtain⟨q,eq⟩:∃q,qs[m]?=some q:={_,Qc ⇑(wa lb hm)};refine au {by repeat' (first|exact trivial|refine{rfl,?_}),i_yes (ce ?_)};refine bP (ak (ai rfl (aB {b,q.1,q.2,rfl,S3 _ _ (hb m b q ex eq),?_})));refine b9.mk hd (by rw[Qa];exact hm) (by rw[Qa,Qa,Qt];exact zI lb few (by decide) hm) {aQ S3 hL,ae,?_};rw[QX,eq,XE,Qp,Qp];rfl
 obtain⟨S3,hd,rfl⟩:=pv;rw[Qa,lb,Qw (Qh _)]at hd;refine aB {L,_,rfl,SqL.of hd,?_};refine{_,rfl,?_};rw[List.all_map];by_cases c:wH qs=true
 ·have e:qs.all (id∘λq=>decide (0<=q.2))=true:=c;rw[e];refine du ?_;kt_k;refine bH (bP (ak (ai rfl (ak (bS (s_list (ai rfl {p,rfl,{_,SqL.of (S3 _ _ hp)},λL2 hL2=>?_})))))));refine bU (xs:=bs.map V.ref) (λm H4 ys=>ao H3 H4/\H4 L2=-.lst ys/\ys=((qs.take m).map (·.1)).map V.str) {ag hL2,ae,rfl} (λm H' ys pv=>{pv.2.1,SqL.of (pv.1 _ _ (S3 _ _ hp))}) (λm v H4 ys e pv=>?_) (λH4 ys pv=>?_)
  ·obtain⟨S4,hd,rfl⟩:=pv;rw[Qi]at e
   cases ex:bs[m]? with
   | none=>rw[ex]at e;cases e
   | some b =>
   rw[ex]at e;cases e;have hm:m<bs.length:=(Qe.mp ex).1;obtain⟨q,eq⟩:∃q,qs[m]?=some q:={_,Qc ⇑(wa lb hm)};refine au {by repeat' (first|exact trivial|refine{rfl,?_}),i_yes (ce ?_)};refine aO (ai rfl (i_c (i_ixT ((S3.trans S4) _ _ (hb m b q ex eq)) rfl ?_)));refine b9.mk hd (by rw[Qa];exact hm) (by rw[Qa,Qa,Qt];exact zI lb few (by decide) hm) {aQ S4 hL2,ae,?_};rw[QX,eq,XE,Qp,Qp];rfl
  obtain⟨S4,hd,rfl⟩:=pv;rw[Qa,lb,Qw (Qh _)]at hd;refine aB {a,li,lg,ins,gvs,gs,L2,qs.map (·.1),rfl,NA.same (S3.trans S4),ok,hd,by rw[Qa];exact few,λx hx=>?_,λH5 S5=>?_}
  ·obtain⟨q,hq,rfl⟩:=Qj.mp hx;exact len q hq
  have:=k _ ((S3.trans S4).trans S5);rwa [c,Bool.true_and]at this
 have e:qs.all (id∘λq=>decide (0<=q.2))=false:=Xc.mpr c;rw[e];refine ce ?_;refine bH (i_c ?_);have:=k _ S3;rwa [Xc.mpr c,Bool.false_and]at this
theorem lW:FnScope ["steps", "numbers", "here"] ["steps", "numbers"] (aC (top 30)):=by fin2
theorem yx (Fu:Fun K "is_falling" "is_falling" (top 30) f fd) (T:Txt K mg TT):FnOk P w K mg base CX0 1 f fd ["steps", "numbers"] vN:=by
 have S:=lW;w_up;obtain⟨F,N,ins,gs,qs,rfl,sd,nd,few,hN,NF,cl,ok,k⟩:=h;have hu:=dC hr;refine'{?_,?bb,?_}
 case bb =>
  walk_at "b";refine' n8 ?_;rotate_left 1;walk_at "f";exact(eR (pv 0));exact(bR 2 S.nd);walk_at "p";exact(fe (eQ (aE (gh rfl) (by rfl) T.n_all PyProof.Rows.boot_all (aa (dB "step" [("numbers", 1),("here", 2)] (bw (bC hu (pv 0) (pv 2))) (λ_ _ _ _=>(di jc (bC hu (pv 1) (aD (jF (K:=K) rfl) (pv 0) ad)) (bC hu (pv 1) (pv 2)) (aN _)))) af))));exact(aJ cW);exact(aJ cW)
 x_go;have cl:=gg.mp cl;obtain⟨as,r,las,sts⟩:=id sd;have lx:(qs.map (·.1)).length=qs.length:=Qa _;have lk:(fdK (aA (qs.map (·.1))) as).length=qs.length:=by unfold fdK aA;simp[las]
 kt_k;refine sV r trivial λo=>?_
 have sd2:SD (upd H F (.frz o (.dK (fdK (aA (qs.map (·.1))) as)))) F ins gs (qs.map (·.1)):=sd.frz r λr2=>by
  injection vS r trivial r2 trivial
 have hF2:upd H F (.frz o (.dK (fdK (aA (qs.map (·.1))) as))) F=-.frz o (.dK (fdK (aA (qs.map (·.1))) as)):=ae;have bk:∀{H':Hp},ao (upd H F (.frz o (.dK (fdK (aA (qs.map (·.1))) as)))) H'->ao H (back H F H'):=λS=>dQ r S;have hN2:upd H F (.frz o (.dK (fdK (aA (qs.map (·.1))) as))) N=-.dK (aX qs):=by rw[am NF];exact hN
 generalize upd H F (.frz o (.dK (fdK (aA (qs.map (·.1))) as)))=H2 at *;refine s_for (fE (ai rfl {F,o,_,rfl,hF2,?_}));let I39:IvF:=λi σ' H'=>(∃x1,σ'=[-.ref F,-.ref N,x1])/\ao H2 H'/\∀i'<i,∀q,qs[i']?=-q->((az ins gs q.1).all λp=>ltV (bi (aX qs) (Sum.inr p.2)) q.2)=true;refine iw I39 {⟨_,rfl⟩,ao.refl _,λi' h=>absurd h (Nat.not_lt_zero _)} (λi σ' H' _ pv=>pv.2.1 _ _ hF2) (λi k' v σ' H' e pv=>?_) (λσ' H' pv=>?_)
 ·obtain⟨⟨x1,rfl⟩,Sm,no⟩:=pv;obtain⟨x,b,e1,e2,rfl,rfl⟩:=kW e;have hx:=Qg e1;rw[Qi]at e1
  cases eq:qs[i]? with
  | none=>rw[eq]at e1;cases e1
  | some q =>
  rw[eq]at e1;cases e1;have hq:=Qg eq;obtain⟨b',dg,vs,hvs,pvs⟩:=(sd2.same Sm).fat nd q.1 hx;have lvs:vs.length=(az ins gs q.1).length:=by have:=aU pvs;unfold cX at this;rwa [Qa]at this
  have l7:=eO ins gs q.1;have g7:=ok.g7;have hN3:=Sm _ _ hN2;refine au ?_;kt_k;refine i_not (i_tB (c7 (ak (bS (s_list (i_dget (ai rfl (ai rfl {F,_,rfl,dg,b',rfl,{_,SqL.of hvs},λL hL=>?_}))))))));let I40:IvC:=λm H3 ys=>ao H' H3/\H3 L=-.lst ys/\ys=(((az ins gs q.1).take m).map λp=>ltV (bi (aX qs) (Sum.inr p.2)) q.2).map V.bl;refine bU (xs:=vs) I40 {ag hL,ae,rfl} (λm H' ys p=>{p.2.1,SqL.of (p.1 _ _ hvs)}) (λm v H3 ys e p=>?_) (λH3 ys p=>?_)
  ·obtain⟨S3,hd,rfl⟩:=p;obtain⟨p,b2,hp,rfl,hb2⟩:=gT pvs e;have hm:m<vs.length:=(Qe.mp e).1;obtain⟨n,hn,ev⟩:=kR nd (cl q.1 hx p (Qg hp));have dg1:cO H3 N (.str p.2) (-.int n):=.inl {_,Sum.inr p.2,.inl (S3 _ _ hN3),rfl,ev.symm};have dg2:cO H3 N (.str q.1) (-.int q.2):=.inl {_,Sum.inr q.1,.inl (S3 _ _ hN3),rfl,(fu nd hq).symm};refine au {by repeat' (first|exact trivial|refine{rfl,?_}),i_yes (ce ?_)};refine aO (i_dget (ai rfl (aO (ai rfl (i_c (i_ixT (S3 _ _ hb2) rfl {N,_,rfl,dg1,i_dget (ai rfl (ai rfl {N,_,rfl,dg2,b_ ?_}))}))))));refine b9.mk hd hm (by rw[Qa,Qa,Qt];omega) {aQ S3 hL,ae,?_};rw[QX,hp,XE,Qp,Qp];show _=_++[V.bl (ltV (bi (aX qs) (Sum.inr p.2)) q.2)];rw[ev];rfl
  obtain⟨S3,hd,rfl⟩:=p;rw[lvs,Qw (Qh _)]at hd;refine aB {L,_,rfl,SqL.of hd,?_};refine{_,rfl,?_};rw[List.all_map];by_cases c:((az ins gs q.1).all λp=>ltV (bi (aX qs) (Sum.inr p.2)) q.2)=true
  ·have e:((az ins gs q.1).all (id∘λp=>ltV (bi (aX qs) (Sum.inr p.2)) q.2))=true:=c;rw[e];refine du ?_;kt_k;refine{⟨_,rfl⟩,Sm.trans S3,λi' hi' h eh=>?_};by_cases ci:i'<i
   ·exact no i' ci h eh
   have:i'=i:=by exact yh hi' ci
   subst this;rw[eq]at eh;cases eh;exact c
  have e:((az ins gs q.1).all (id∘λp=>ltV (bi (aX qs) (Sum.inr p.2)) q.2))=false:=Xc.mpr c;rw[e];refine ce ?_;refine bH (i_c ?_);refine{(Sm.trans S3) _ _ hF2,?_};have hb:mS ins gs qs=false:=Xc.mpr λz=>c (QM.mp z q hq);have:=k _ (bk (Sm.trans S3));rwa [hb]at this
 obtain⟨⟨x1,rfl⟩,Sm,no⟩:=pv;refine{Sm _ _ hF2,?_};lk
 have hb:mS ins gs qs=true:=QM.mpr λh hh=>by
  obtain⟨i,hi,e⟩:=Qo.mp hh;exact no i (by rw[lk];exact hi) h (by rw[Qc hi,e])
 have:=k _ (bk Sm);rwa [hb]at this
theorem lQ:FnScope ["net", "standing", "rest", "paper", "numbers", "steps"] ["net", "standing", "rest", "paper"] (aC (top 31)):=by fin2
theorem uH (Fu:Fun K "rest_shows" "rest_shows" (top 31) f fd) (T:Txt K mg TT) (f_check_standing:Fn P w K mg base "check_standing" ["net", "thing"] 3 (q_ .non)) (f_is_rest_paper:Fn P w K mg base "is_rest_paper" ["net", "thing"] 4 vM) (f_steps_from:Fn P w K mg base "steps_from" ["net", "standing"] 12 eY)
  (f_is_closed:Fn P w K mg base "is_closed" ["steps"] 1 jT) (f_is_falling:Fn P w K mg base "is_falling" ["steps", "numbers"] 1 vN) (f_rests_in:Fn P w K mg base "rests_in" ["steps"] 1 gr):FnOk P w K mg base CX0 13 f fd ["net", "standing", "rest", "paper"] pD:=by
 have S:=lQ;w_up;obtain⟨a,li,lg,ins,gvs,gs,z,r,p,bs,qs,rfl,NA,ok,st,pp,few,len,k⟩:=h;have hu:=dC hr;refine'{?_,?bb,?_}
 case bb =>
  walk_at "b";exact(bJ (a8 f_check_standing hr (aa (pv 0) (aa (pv 1) af aj) aj)));exact(fe (eQ (a8 f_is_rest_paper hr (aa (pv 0) (aa (pv 3) af aj) aj))));exact(aJ cW);exact aF 4 S.nd (eF rfl (by rfl) T.n_dict (aa (pv 3) af aj));exact(gX (dJ hu (pv 1) (pv 4)));exact(aJ cW);exact aF 5 S.nd (eF rfl (by rfl) T.n_dict (aa (rp (dB "here" [("net", 0)] (eR (pv 4)) (λ_ _ _ _=>(br (aa (pv 0) (aa (a8 f_steps_from hr (aa (pv 1) (aa (pv 0) af aj) aj)) af se_call) aj))))) af))
  with_reducible refine' aJ ?e
  case e =>
   exact(f_ (a8 f_is_closed hr (aa (pv 5) af aj)) (f_ (a8 f_is_falling hr (aa (pv 5) (aa (pv 4) af aj) aj)) (fZ (di (kB hr.units) (a8 f_rests_in hr (aa (pv 5) af aj)) (aZ (aa (pv 2) af aj)) (aN _)))))
 x_go;unfold shB at k;lk;refine{a,li,lg,ins,gvs,gs,z,rfl,NA,ok,st,λH0 S0=>?_};lk;refine{a,li,lg,ins,gvs,gs,p,bs,qs,rfl,NA.same S0,ok,pp.same S0,few,len,λH1 S1=>{_,rfl,?_} };have S01:=S0.trans S1;by_cases c:(wH qs&&kz (aq ins gs).length (qs.map (·.1)))=true
 case neg =>
  have cf:=Xc.mpr c;rw[cf]at k ⊢;exact ce (bH (i_c (k _ S01)))
 have hpap:kz (aq ins gs).length (qs.map (·.1))=true:=by rw[Xj]at c;exact c.2
 rw[c]at k ⊢;refine du ?_;kt_k;obtain⟨sts,nd,so⟩:=v9 hpap;obtain⟨hp,lb,hb⟩:=pp.same S01;have w11:(aq ins gs).length<=11:=by rw[bK];have:=ok.i4;have:=ok.g7;omega
 have f11:=gd w11 (gf nd) λx hx=>by
  obtain⟨y,hy,rfl⟩:=Qj.mp hx;exact{y,rfl,sts y hy}
 unfold aA at f11;rw[Qa]at f11;kt_k;refine bj (iU (ak (ai rfl (aB {p,bs.map V.ref,_,rfl,SqL.of hp,by rw[Qa];exact Cd few lb,(pp.same S01).prs,λN hN=>au ?_}))));rw[kQ nd];ctx_has H1 N H2 S2 hN2 aI hN;have S02:=S01.trans S2;have dgz:cO H2 N (.str z) (bi (aX qs) (Sum.inr z)):=.inl {_,Sum.inr z,.inl hN2,rfl,rfl};kt_k;refine s_if (i_test (eT (ai rfl (ai rfl {N,_,rfl,dgz,_,rfl,?_}))));rw[jE];by_cases cz:z∈qs.map (·.1)
 case neg =>
  rw[QC cz]at k ⊢;exact ce (bH (i_c (k _ S02)))
 rw[QS cz]at k ⊢;refine du ?_;kt_k;kt_k;refine bj (iU (ak (wZ (.inl hN2) trivial λo=>?_)));have hN3:upd H2 N (.frz o (.dK (aX qs))) N=-.frz o (.dK (aX qs)):=ae;have bk:∀{H':Hp},ao (upd H2 N (.frz o (.dK (aX qs)))) H'->ao H2 (back H2 N H'):=λS=>dQ (.inl hN2) S;have NA3:NAt (upd H2 N (.frz o (.dK (aX qs)))) a li lg ins gvs gs:=NA.mono (λb xs e=>by rw[am (λq=>by rw[q]at e;rw[S02 _ _ e]at hN2;cases hN2)];exact S02 _ _ e) (λb xs e=>by rw[am (λq=>by rw[q]at e;rw[S02 _ _ e]at hN2;cases hN2)];exact S02 _ _ e)
 have fr3:∀{b},upd H2 N (.frz o (.dK (aX qs))) b=none->H2 b=none:=λ{b} e=>by
  by_cases c:b=N
  ·rw[c,hN3]at e;cases e
  rw[am c]at e;exact e
 generalize upd H2 N (.frz o (.dK (aX qs)))=H3 at *;refine bS (fE (ai rfl {N,o,_,rfl,hN3,λL hL=>?_}));have lkq:(aX qs).length=qs.length:=by unfold aX;rw[Qa]
 let I41:IvC:=λm H4 ys=>ao H3 H4/\H4 L=-.lst ys/\ys.length=m/\∃as:J7,as.length=m/\(∀b∈as,b≠L/\b≠N)/\(∀v∈ys,v≠.ref N)/\Paired (qR H4) ys (((qs.map (·.1)).take m).zip (as.map V.ref))/\∀(i:Nat) x b,((qs.map (·.1)).take m)[i]?=-x->as[i]?=-b->bA H4 b (cX (az ins gs x))
 refine iW I41
  {ag hL,ae,rfl,[],rfl,(λb h=>nomatch h),(λv h=>nomatch h),.nil,λi x b _ e=>by simp at e} (λm H' ys pv=>{pv.2.1,pv.1 _ _ hN3}) (λm k' v H4 ys e pv=>?_) (λH4 ys pv=>?_)
 ·obtain⟨S4,hd,ly,as,las,nL,nY,pr,sas⟩:=pv;have e0:(aX qs)[m]?=-(k',v):=e;unfold aX at e;rw[Qi]at e
  cases eq:qs[m]? with
  | none=>rw[eq]at e;cases e
  | some q =>
  rw[eq]at e;cases e;have hm:m<qs.length:=(Qe.mp eq).1;have ex:(qs.map (·.1))[m]?=-q.1:=by rw[Qi,eq];rfl
  refine au {by repeat' (first|exact trivial|refine{rfl,?_}),i_yes (ce ?_)};refine i_tup (ak (ai rfl (ak (bP (ak (ai rfl (ak (ai rfl (aB ?_)))))))));refine{a,li,lg,ins,gvs,gs,q.1,rfl,NA3.same S4,ok,sts q.1 (Qg ex),λl vs H5 S5 hl0 hl5 pr5=>?_};refine aB {by simp[sizeLine],λt ht=>?_};ctx_has H5 t H6 S6 q6 aI ht;have S56:=S5.trans S6;have hd6:=S56 _ _ hd;have hN6:=(S4.trans S5) _ _ hN3;refine b9.mk hd6 (by rw[lkq];exact hm) ⋯ {aQ (S4.trans S56) hL,ae,by rw[Qk,ly];rfl,as++[l],by rw[Qk,las];rfl,λb hb=>?_,λv hv=>?_,?_,λi y b e1 e2=>?_}
  all_goals have kt:dH H6 (upd H6 L (.lst (ys++[V.ref t]))):=λb us e=>by rw[am (λzz=>by rw[zz,hd6]at e;cases e)];exact e
  ·rcases Qq.mp hb with h|h
   ·exact nL b h
   rw[Qu]at h;rw[h];exact{λzz=>(by rw[zz,hd]at hl0;cases hl0),λzz=>(by rw[zz,S4 _ _ hN3]at hl0;cases hl0)}
  ·rcases Qq.mp hv with h|h
   ·exact nY v h
   rw[Qu]at h;rw[h];exact λzz=>by cases zz;rw[hN6]at ht;cases ht
  ·rw[QX,ex,XE,Qp,List.zip_append (by rw[Qt,Qa,Qa];exact CG lb lkq las hm)];refine ja (bZ (λv q ⟨b,e,h⟩=>{b,e,kt _ _ (S56 _ _ h)}) pr) {t,rfl,kt _ _ q6}
  rw[QX,ex,XE]at e1;have ltk:((qs.map (·.1)).take m).length=m:=by rw[Qt,Qa];exact CF lb lkq las hm
  have lift:∀{Hx:Hp} {b:Addr} {sts:List (V × Key)},b≠L->dH Hx (upd H6 L (.lst (ys++[V.ref t])))->(∀us,Hx b=-.lst us->H6 b=-.lst us)->bA Hx b sts->bA (upd H6 L (.lst (ys++[V.ref t]))) b sts:=λ{Hx b sts} hb kk hh ⟨us,h1,h2⟩=>{us,by rw[am hb];exact hh us h1,bZ (λv s ⟨c,ec,q⟩=>{c,ec,kk _ _ q}) h2};by_cases ci:i<m
  ·rw[QO ⇑(CD las ltk ci)]at e1;rw[QO ⇑(wc las ltk ci)]at e2;exact lift (nL b (Qg e2)).1 (λc us e=>kt _ _ (S56 _ _ e)) (λus e=>S56 _ _ e) (sas i y b e1 e2)
  rw[QK ⋯]at e1 e2
  have hi:i=m:=by
   have:=(Qe.mp e2).1;simp at this;exact CC las ltk ci this
  subst hi;rw[ltk,Nat.sub_self]at e1;rw[las,Nat.sub_self]at e2;cases e1;cases e2;exact lift (λzz=>by rw[zz,hd]at hl0;cases hl0) (λc us e=>kt _ _ (S6 _ _ e)) (λus e=>S6 _ _ e) (i9 hl5 pr5)
 obtain⟨S4,hd,ly,as,las,nL,nY,pr,sas⟩:=pv;rw[lkq]at ly las pr sas;rw[Qw (by rw[Qa];exact Qh _)]at pr sas;have LN:L≠N:=λe=>by rw[e,hN3]at hL;cases hL
 have bkx:∀{b u},H4 b=-u->b≠N->back H2 N H4 b=-u:=λe n=>by rw[b8 n];exact e
 have lxs:(qs.map (·.1)).length=qs.length:=Qa _;refine{S4 _ _ hN3,aB {L,ys,(qs.map (·.1)).zip (as.map V.ref),rfl,SqL.of (bkx hd LN),⋯,?_,λF hF=>?_} }
 ·refine fk (aU pr) λi v q e1 e2=>?_;obtain⟨q',e3,b,eb,hb⟩:=paired_get pr e1;rw[e2]at e3;cases e3;exact{b,eb,bkx hb λe=>nY v (Qg e1) (by rw[eb,e])}
 rw[uu nd ⋯];refine au ?_;generalize hE:upd (back H2 N H4) F _=H5;obtain⟨S5,q5⟩:=aI hF hE;clear hE;have SB:=bk S4;have S25:=SB.trans S5;have hN5:=S25 _ _ hN2
 have sd:SD H5 F ins gs (qs.map (·.1)):={as,.inl q5,⋯,λi x b e1 e2=>by
  obtain⟨us,h1,h2⟩:=sas i x b e1 e2;refine{us,S5 _ _ (bkx h1 (nL b (Qg e2)).2),bZ (λv s ⟨c,ec,q⟩=>{c,ec,S5 _ _ (bkx q λe=>?_)}) h2}
  rw[e,S4 _ _ hN3]at q;cases q}
 have NF:N≠F:=λe=>by rw[<-e,SB _ _ hN2]at hF;cases hF
 refine bH (i_andV (bP (ak (ai rfl (aB {F,ins,gs,_,rfl,sd,nd,⋯,ok,λH6 S6=>{_,rfl,?_} })))));have S06:=S02.trans (S25.trans S6);by_cases cc:eB ins gs (qs.map (·.1))=true
 case neg =>
  rw[Xc.mpr cc]at k ⊢;exact du (k _ S06)
 rw[cc]at k ⊢;refine ce ?_;refine i_andV (bP (ak (ai rfl (ak (ai rfl (aB {F,N,ins,gs,qs,rfl,sd.same S6,nd,⋯,S6 _ _ hN5,NF,cc,ok,λH7 S7=>{_,rfl,?_} }))))));by_cases cf:mS ins gs qs=true
 case neg =>
  rw[Xc.mpr cf]at k ⊢;exact du (k _ (S06.trans S7))
 rw[cf]at k ⊢;refine ce ?_;obtain⟨as7,r7,las7,sts7⟩:=(sd.same S6).same S7;refine aO (bP (ak (ai rfl (aB {F,qs.map (·.1),as7,λh=>(az ins gs h).length,rfl,r7,las7,⇑(CB f11),nd,λi x b e1 e2=>?_,λp8 ss H8 S8 hp8 pm so8 q8=>?_}))))
 ·obtain⟨vs,h1,h2⟩:=sts7 i x b e1 e2;exact{vs,h1,by have:=aU h2;unfold cX at this;rwa [Qa]at this}
 have es:=jW so8 so pm;subst es;refine cw (ak (ai rfl (aB {by simp[sizeLine],λp9 hp9=>?_})));refine w4 (ys:=[r]) (SqL.of (ag hp9 _ _ q8)) (SqL.of ae) ?_;exact k _ (S06.trans (S7.trans (S8.trans (ag hp9))))
end
def jk (ins:List Str) (gs:J8) (z:Str) (qs:J9):Prop:=∃xs ps,Met ins gs z xs/\NumOk ins gs xs ps/\qs.Perm (ps.map λ(p:Str × Nat)=>((p.1,(p.2:Int)):Str × Int))/\qs.Pairwise λx y=>leT x.1 y.1
section
variable {ins:List Str} {gs:J8} {z r:Str} {qs qs':J9}
theorem dS.uniq {h:Str} {n m:Nat} (a:dS ins gs h n) (b:dS ins gs h m):n=m:=by
 obtain⟨h1,os,y,r1,e1⟩:=a;obtain⟨h2,ps,w,r2,e2⟩:=b;have:=h1 _ _ r2;have:=h2 _ _ r1;omega
theorem NumOk.sub_of {xs:List Str} {ps ps':List (Str × Nat)} (m:Met ins gs z xs) (a:NumOk ins gs xs ps) (b:NumOk ins gs xs ps') {p:Str × Nat} (hp:p∈ps):p∈ps':=by
 have hx:=a.sub p hp;obtain⟨p',hp',e⟩:=Qj.mp ((b.long_of m hx).mpr {p.2,a.long p hp});have l:=b.long p' hp';rw[e]at l;have:p'=p:=Prod.ext e (l.uniq (a.long p hp));rwa [this]at hp'
theorem tK {α β:Type} {ps:List (α × β)} (nd:(ps.map (·.1)).Nodup):ps.Nodup:=(XN.mp nd).imp λ{a b} h e=>h (by rw[e])
theorem jk.nd (a:jk ins gs z qs):(qs.map (·.1)).Nodup:=by
 obtain⟨xs,ps,m,o,pm,so⟩:=a;rw[(pm.map _).nodup_iff,QR];exact o.nd
theorem jk.det (a:jk ins gs z qs) (b:jk ins gs z qs'):qs=qs':=by
 have nd':=b.nd;obtain⟨xs,ps,m,o,pm,so⟩:=a;obtain⟨xs',ps',m',o',pm',so'⟩:=b;have e:=m.one m';subst e;have pp:ps.Perm ps':=(List.perm_ext_iff_of_nodup (tK o.nd) (tK o'.nd)).mpr λp=>{λh=>o.sub_of m o' h,λh=>o'.sub_of m o h};have pq:qs.Perm qs':=pm.trans ((pp.map _).trans pm'.symm);refine List.Perm.eq_of_pairwise (λa b ha hb h1 h2=>?_) so so' pq;have ek:a.1=b.1:=qz h1 h2;have ha':=pq.mem_iff.mp ha;obtain⟨i,hi,ei⟩:=Qo.mp ha';obtain⟨j,hj,ej⟩:=Qo.mp hb;have:i=j:=(List.getElem_inj (h₀:=by rw[Qa];exact hi) (h₁:=by rw[Qa];exact hj) nd').mp (by rw[List.getElem_map,List.getElem_map,ei,ej];exact ek);subst this;rw[<-ei,ej]
structure ShOk (ins:List Str) (gs:J8) (z r:Str) (qs:J9):Prop where
 nd:(qs.map (·.1)).Nodup
 so:(qs.map (·.1)).Pairwise leT
 zin:z∈qs.map (·.1)
 rin:r∈qs.map (·.1)
 st:∀q∈qs,StOk (aq ins gs).length q.1
 pos:∀q∈qs,0<=q.2
 rest:∀q∈qs,az ins gs q.1=[]↔q.1=r
 fall:∀q∈qs,∀p∈az ins gs q.1,∃n,(p.2,n)∈qs/\n<q.2
theorem jk.shows (a:jk ins gs z qs) (one:t_ ins gs z r):ShOk ins gs z r qs:=by
 have nd:=a.nd;obtain⟨xs,ps,m,o,pm,so⟩:=a;obtain⟨xs',m',uni,n,l⟩:=one;have e:=m.one m';subst e;have keys:∀x,x∈qs.map (·.1)↔x∈ps.map (·.1):=λx=>by rw[(pm.map _).mem_iff,QR];rfl
 have mem:∀q∈qs,∃p∈ps,q=(p.1,(p.2:Int)):=λq hq=>by
  obtain⟨p,hp,e⟩:=Qj.mp (pm.mem_iff.mp hq);exact⟨p,hp,e.symm⟩
 obtain⟨hr,er⟩:=(uni r).mpr rfl;refine{nd,XN.mpr so,(keys z).mpr ((o.long_of m m.start).mpr ⟨n,l⟩),(keys r).mpr ((o.long_of m hr).mpr {0,.rest er}),λq hq=>?_,λq hq=>?_,λq hq=>?_,λq hq p hp=>?_}
 ·obtain⟨p,hp,rfl⟩:=mem q hq;exact m.st _ (o.sub p hp)
 ·obtain⟨p,hp,rfl⟩:=mem q hq;show (0:Int)<=(p.2:Int);omega
 ·obtain⟨p,hp,rfl⟩:=mem q hq
  exact{λe=>(uni p.1).mp {o.sub p hp,e},λe=>by
   show az ins gs p.1=[]
   rw[show p.1=r from e];exact er}
 obtain⟨u,hu,rfl⟩:=mem q hq;have hx:=o.sub u hu;have lu:=o.long u hu;have hy:=m.closed hx hp;have b:=lu.at (m.st _ hx) hp;obtain⟨v,hv,ev⟩:=Qj.mp ((o.iff m hy).mpr {u.2,λos y r=>by have:=b os y r;exact zL this});obtain⟨_,os,y,ry,el⟩:=o.long v hv;rw[ev]at ry;have:=b os y ry;refine{(v.2:Int),pm.mem_iff.mpr (Qj.mpr {v,hv,by rw[<-ev]}),?_};show (v.2:Int)<(u.2:Int);omega
theorem ShOk.bool (a:ShOk ins gs z r qs):shB ins gs z r qs=true:=by
 have h1:wH qs=true:=QM.mpr λq hq=>QS (a.pos q hq)
 have h2:kz (aq ins gs).length (qs.map (·.1))=true:=by
  unfold kz;rw[Xj,QM,ii];refine{λx hx=>?_,a.nd,a.so};obtain⟨q,hq,rfl⟩:=Qj.mp hx;exact nw.mpr (a.st q hq)
 have h3:eB ins gs (qs.map (·.1))=true:=gg.mpr λx hx p hp=>by
  obtain⟨q,hq,rfl⟩:=Qj.mp hx;obtain⟨n,hn,_⟩:=a.fall q hq p hp;exact Qj.mpr ⟨_,hn,rfl⟩
 have h4:mS ins gs qs=true:=QM.mpr λq hq=>QM.mpr λp hp=>by
  obtain⟨n,hn,l⟩:=a.fall q hq p hp;have:=fu a.nd hn;rw[this];exact QS l
 have h5:((qs.map (·.1)).filter λh=>decide ((az ins gs h).length=0))=[r]:=qi (a.nd.filter _) λx=>by
  rw[List.mem_filter,XA,Xb];refine{λ⟨hx,e⟩=>?_,λe=>?_}
  ·obtain⟨q,hq,rfl⟩:=Qj.mp hx;exact(a.rest q hq).mp e
  subst e;obtain⟨q,hq,e⟩:=Qj.mp a.rin;refine{a.rin,?_};rw[<-e];exact(a.rest q hq).mpr e
 unfold shB;rw[h1,h2,h3,h4,QS a.zin,QS h5];rfl
end
def jR (TL:Addr):Sp:=λvs H Q _=>∃a li lg ins gvs gs z,vs=[.ref a,.str z]/\NAt H a li lg ins gvs gs/\NetOk ins gs/\StOk (aq ins gs).length z/\gC TL fH H /\
 (∀(r:Str) (p:Addr) (bs:J7) (qs:J9) H',Tk TL H H'->H p=none->t_ ins gs z r->jk ins gs z qs->qs.length<=128->gj H' p bs qs->Q (.ref p) H')/\(∀H',Tk TL H H'->(∀r,¬t_ ins gs z r)->Q .non H')
theorem r_eqNil (hl:H l=-.lst us) (q:∀H',ao H H'->Q (.bl (us.length==0)) H'):vA eL U H λy H2=>rj K false (.ref l) y H2 Q:=by
 refine cw (aB {by simp[sizeLine],λp hp=>?_});refine{l,p,us,[],λ_=>true,rfl,rfl,SqL.of (ag hp _ _ hl),SqL.of ae,(λj x y _ h=>by simp at h),?_};rw[QE Qn,show (us.length==([]:List V).length&&(List.range us.length).all λ_=>true)=(us.length==0) by simp];exact q _ (ag hp)
theorem xS (st:StOk n z):gS "01" z=Str.empty:=mx.mpr λc hc=>by
 rcases st.signs c hc with e|e <;> subst e <;> decide +kernel
theorem yK (q:tl U H λx H1=>∃a kvs,x=.ref a/\H1 a=-.dK kvs/\∀r,H1 r=none->Q (.ref r) (upd H1 r (cT (pb a)))):vB tl U H Q:=q
section
theorem lR:FnScope ["net", "standing", "found", "numbers"] ["net", "standing"] (aC (top 27)):=by fin2
theorem uJ {TL:Addr} {f:Addr} {fd:FuncData} (Fu:Fun K "rest_paper" "rest_paper" (top 27) f fd) (T:Txt K mg TT) (f_check_standing:Fn P w K mg base "check_standing" ["net", "thing"] 3 (q_ .non)) (f_steps_found:Fn P w K mg base "steps_found" ["net", "standing"] 15 (iG TL)) (f_rests_in:Fn P w K mg base "rests_in" ["steps"] 1 gr) (f_most_switchings:Fn P w K mg base "most_switchings" ["found"] 2 vL) :
  FnOk P w K mg base CX0 16 f fd ["net", "standing"] (jR TL):=by
 have S:=lR;w_up;obtain⟨a,li,lg,ins,gvs,gs,z,rfl,NA,ok,st,tb,k1,k2⟩:=h;have hu:=dC hr;refine'{?_,?bb,?_}
 case bb =>
  walk_at "b";exact(bJ (a8 f_check_standing hr (aa (pv 0) (aa (pv 1) af aj) aj)));exact aF 2 S.nd (a8 f_steps_found hr (aa (pv 0) (aa (pv 1) af aj) aj));exact aF 3 S.nd (a8 f_most_switchings hr (aa (pv 2) af aj));exact(PW.pt (fj (aL jb (aE aM (by rfl) T.n_len QL (aa (a8 f_rests_in hr (aa (pv 2) af aj)) af se_call)) ad (aN _)) (eP (gX (dJ hu (pv 1) (pv 3))))));exact(aJ oa);exact(aJ (aE (sv rfl) (by rfl) T.n_sorted Xi (aa (v6 (pv 3)) af se_call)))
 x_go;lk;refine{a,li,lg,ins,gvs,gs,z,rfl,NA,ok,st,λH0 S0=>?_};have NA0:=NA.same S0;have tb0:=dU tb S0;lk;refine{a,li,lg,ins,gvs,gs,z,rfl,NA0,ok,st,tb0,λF as n H1 t1 hF0 ln las hF1 sts=>?_};obtain⟨xs,exs,lxs,met,few⟩:=wO ok st ln;rw[exs]at hF1 sts;have t01:Tk TL H H1:=(Tk.of tb S0).trans t1;have sd:SD H1 F ins gs xs:={as,.inl hF1,⇑(C4 las lxs),λi x b e1 e2=>sts i (Sum.inr x) b (eJ.mpr ⟨x,e1,rfl⟩) e2};lk;refine{F,ins,gs,z,xs,rfl,sd,met,ok,λN ps H2 S2 hN0 hN num=>?_};obtain⟨as2,r2,las2,sts2⟩:=sd.same S2;lk;refine{F,xs,as2,λh=>(az ins gs h).length,rfl,r2,las2,few,met.nd,λi x b e1 e2=>?_,λRs ss H3 S3 hp pm so hp2=>?_}
 ·obtain⟨vs,h1,h2⟩:=sts2 i x b e1 e2;exact{vs,h1,by have:=aU h2;unfold cX at this;rwa [Qa]at this}
 have t03:Tk TL H H3:=(t01.trans (Tk.of t01.tab S2)).trans (Tk.of (dU t01.tab S2) S3);obtain⟨ndr,rmem⟩:=ur met pm;generalize (ss.filter λh=>decide ((az ins gs h).length=0))=rs at *
 have non:∀{r},t_ ins gs z r->rs=[r]/\∃n,dS ins gs z n:=λ{r} ⟨ys,m',h,l⟩=>by
  have:=met.one m';subst this;exact{qi ndr λx=>(rmem x).trans (h x),l}
 have hN3:=S3 _ _ hN;lk;rw[Qa];by_cases c1:rs.length=1
 case neg =>
  refine ifT (~~~(λz=>c1 ⋯)) ?_;lk;exact k2 H3 t03 λr o=>c1 (by rw[(non o).1];rfl)
 refine ifF (by rw[c1];rfl) ?_;have dg:cO H3 N (.str z) (bi (fR ps) (Sum.inr z)):=.inl {_,Sum.inr z,.inl hN3,rfl,rfl};refine i_test (eT (ai rfl (ai rfl {N,_,rfl,dg,_,rfl,?_})));by_cases c2:z∈ps.map (·.1)
 case neg =>
  refine ifT (by rw[iS.mpr c2];rfl) ?_;lk;exact k2 H3 t03 λr o=>c2 ((num.long_of met met.start).mpr (non o).2)
 refine ifF ?_ ?_
 ·cases q:bi (fR ps) (Sum.inr z) with
  | none=>exact absurd c2 (iS.mp q)
  | some _=>rfl
 obtain⟨r,er⟩:∃r,rs=[r]:=List.length_eq_one_iff.mp c1;subst er
 have lps:ps.length<=xs.length:=by
  have:=Bf.pigeon (ps.map (·.1)) xs num.nd λx hx=>by
   obtain⟨p,hp,rfl⟩:=Qj.mp hx;exact num.sub p hp
  rwa [Qa]at this
 have f7:=met.few7 ok;refine bH (c7 (ak (yK (ai rfl {N,_,rfl,hN3,λv hv=>aB ?_}))));ctx_has H3 v H4 S4 q4 aI hv;refine{v,N,ps.map λ(p:Str × Nat)=>((p.1,(p.2:Int)):Str × Int),rfl,q4,S4 _ _ hN3,by rw[Qa];omega,λe=>?_,λp bs kf H5 S5 hp5 pm5 so5 tup hl=>?_}
 ·rw[List.map_eq_nil_iff]at e;rw[e]at c2;cases c2
 have t04:=t03.trans (Tk.of t03.tab S4);have lb:=pm5.length_eq;rw[Qa,Qa]at lb;refine k1 r p bs (bs.map kf) H5 (t04.trans (Tk.of t04.tab S5)) (t04.free hp5) {xs,met,λx=>(rmem x).symm.trans Qu,(num.long_of met met.start).mp c2} {xs,ps,met,num,pm5,XN.mpr so5} (by rw[Qa];omega) {hl,by rw[Qa],λi b q e1 e2=>?_};rw[Qi,e1]at e2;cases e2;exact tup b (Qg e1)
end
section
variable {ins:List Str} {gs:J8} {z r:Str} {qs:J9}
theorem xU (h:shB ins gs z r qs=true):ShOk ins gs z r qs:=by
 unfold shB at h;simp only[Xj]at h;obtain⟨⟨⟨⟨⟨h1,h2⟩,h3⟩,h4⟩,h5⟩,h6⟩:=h;obtain⟨sts,nd,so⟩:=v9 h2;have cl:=gg.mp h4;have h6:=XM h6
 have rmem:∀x,x∈qs.map (·.1)/\(az ins gs x).length=0↔x=r:=λx=>by
  rw[<-Qu (a:=x) (b:=r),<-h6,List.mem_filter,XA]
 refine{nd,so,XM h3,((rmem r).mpr rfl).1,λq hq=>sts _ (Qj.mpr ⟨q,hq,rfl⟩),λq hq=>XM (QM.mp h1 q hq),λq hq=>?_,λq hq p hp=>?_}
 ·rw[<-rmem,Xb];exact{λe=>{Qj.mpr ⟨q,hq,rfl⟩,e},λe=>e.2}
 obtain⟨n,hn,e⟩:=kR nd (cl q.1 (Qj.mpr ⟨q,hq,rfl⟩) p hp);have l:=QM.mp (QM.mp h5 q hq) p hp;rw[e]at l;exact{n,hn,XM l}
theorem ShOk.num (a:ShOk ins gs z r qs):∃n,(z,n)∈qs:=by
 obtain⟨q,hq,e⟩:=Qj.mp a.zin;exact{q.2,by rw[<-e];exact hq}
end
def PrW (H:Hp) (lo hi:Nat) (v:V):Prop:=∃(b:Addr) (s:Str) (i:Int),v=.ref b/\H b=-.tup [.str s,.int i]/\lo<=s.length/\s.length<=hi
def PW (H:Hp) (lo hi n:Nat) (p:Addr):Prop:=∃vs:List V,H p=-.lst vs/\lo<=vs.length/\vs.length<=n/\∀v∈vs,PrW H lo hi v
theorem PrW.mono (k:∀b xs,H b=-.tup xs->H' b=-.tup xs) (h:PrW H lo hi v):PrW H' lo hi v:=by
 obtain⟨b,s,i,e,hb,l⟩:=h;exact{b,s,i,e,k _ _ hb,l}
theorem PW.mono (kl:∀xs,H p=-.lst xs->H' p=-.lst xs) (k:∀b xs,H b=-.tup xs->H' b=-.tup xs) (h:PW H lo hi n p):PW H' lo hi n p:=by
 obtain⟨vs,hp,l1,l2,hv⟩:=h;exact{vs,kl _ hp,l1,l2,λv hv'=>(hv v hv').mono k}
theorem PW.same (S:ao H H') (h:PW H lo hi n p):PW H' lo hi n p:=h.mono (λxs e=>S _ _ e) λb xs e=>S _ _ e
theorem PW.upd {H:Hp} {lo hi n:Nat} {p L:Addr} {us:List V} {o:HO} (hL:H L=-.lst us) (ne:p≠L) (h:PW H lo hi n p):PW (upd H L o) lo hi n p :=
 h.mono (λxs e=>by rw[am ne];exact e) λb xs e=>by rw[am λz=>by rw[z,hL]at e;cases e];exact e
theorem sX {i:Int} (S:ao H3 H4) (ht:H4 t=none) (hd:H3 L=-.lst ys) (all:∀v∈ys,PrW H3 lo hi v) (l1:lo<=x.length) (l2:x.length<=hi) :
  ∀v∈ys++[V.ref t],PrW (upd (upd H4 t (.tup [.str x,.int i])) L (.lst (ys++[V.ref t]))) lo hi v:=λv hv=>by
 have hd4:=S _ _ hd;have tL:t≠L:=λe=>by rw[e,hd4]at ht;cases ht
 rcases Qq.mp hv with h|h
 ·refine(all v h).mono λb xs e=>?_;have e4:=S _ _ e;rw[am (λz=>by rw[z,hd]at e;cases e),am (λz=>by rw[z,ht]at e4;cases e4)];exact e4
 rw[Qu]at h;exact{t,x,i,h,by rw[am tL];exact ae,l1,l2}
theorem nU:∀{vs:List V} {H:Hp} {lo hi:Nat},(∀v∈vs,PrW H lo hi v)->∃bs:J7,vs=bs.map V.ref/\∀b∈bs,∃q:Str × Int,H b=-.tup [.str q.1,.int q.2]/\lo<=q.1.length/\q.1.length<=hi
 | [],_,_,_,_=>{[],rfl,by simp}
 | v::vs,H,lo,hi,h=>by
  obtain⟨b,s,i,e,hb,l⟩:=h v (by simp);obtain⟨bs,e2,h2⟩:=nU (vs:=vs) λw hw=>h w (by simp[hw]);refine{b::bs,by rw[e,e2];rfl,λc hc=>?_};rcases QP.mp hc with z|z
  ·rw[z];exact{(s,i),hb,l}
  exact h2 c z
def ph (H:Hp) (b:Addr):Str × Int:=match H b with
 | some (.tup [.str x,.int n])=>(x,n)
 | _=>("", 0)
theorem np {q:Str × Int} (e:H b=-.tup [.str q.1,.int q.2]):ph H b=q:=by
 unfold ph;rw[e]
theorem PW.pap (h:PW H lo hi n p):∃(bs:J7) (qs:J9),gj H p bs qs/\lo<=qs.length/\qs.length<=n/\(∀q∈qs,lo<=q.1.length/\q.1.length<=hi)/\∀b∈bs,H b=-.tup [.str (ph H b).1,.int (ph H b).2]:=by
 obtain⟨vs,hp,l1,l2,hv⟩:=h;obtain⟨bs,rfl,hb⟩:=nU hv;rw[Qa]at l1 l2
 have hk:∀b∈bs,H b=-.tup [.str (ph H b).1,.int (ph H b).2]:=λb hb'=>by
  obtain⟨q,e,_⟩:=hb b hb';rw[np e];exact e
 refine{bs,bs.map (ph H),{hp,by rw[Qa],λi b q e1 e2=>?_},by rw[Qa];exact l1,by rw[Qa];exact l2,λq hq=>?_,hk}
 ·rw[Qi,e1]at e2;cases e2;exact hk b (Qg e1)
 obtain⟨b,hb',rfl⟩:=Qj.mp hq;obtain⟨q,e,l⟩:=hb b hb';rw[np e];exact l
def FnW (H:Hp) (L:Addr) (n:Nat):Prop:=∃ps:J7,H L=-.lst (ps.map V.ref)/\ps.length<=n/\∀b∈ps,b≠L/\PW H 1 11 128 b
theorem FnW.keep (kl:∀b xs,H b=-.lst xs->H' b=-.lst xs) (k:∀b xs,H b=-.tup xs->H' b=-.tup xs) (h:FnW H L n):FnW H' L n:=by
 obtain⟨ps,hL,l,hp⟩:=h;exact{ps,kl _ _ hL,l,λb hb=>{(hp b hb).1,(hp b hb).2.mono (kl b) k} }
theorem FnW.same (S:ao H H') (h:FnW H L n):FnW H' L n:=h.keep (λb xs e=>S _ _ e) λb xs e=>S _ _ e
theorem FnW.put {n:Nat} (h:FnW H L n) (ne:b≠L) (hb:PW H 1 11 128 b):∃us,H L=-.lst us/\us.length<=n/\FnW (upd H L (.lst (us++[V.ref b]))) L (n+1):=by
 obtain⟨ps,hL,l,hp⟩:=h;refine{_,hL,by rw[Qa];exact l,ps++[b],by rw[Qp];exact ae,by rw[Qk];exact Nat.succ_le_succ l,λc hc=>?_};rcases Qq.mp hc with z|z
 ·exact{(hp c z).1,(hp c z).2.upd hL (hp c z).1}
 rw[Qu]at z;rw[z];exact{ne,hb.upd hL ne}
def pE (TL:Addr):Sp:=λvs H Q _=>∃(a li lg:Addr) (ins:List Str) (gvs:List V) (gs:J8) (z:Str) (d:Addr) (ds:List Int) (spot:Int),vs=[.ref a,.str z,.ref d,.int spot]/\NAt H a li lg ins gvs gs/\NetOk ins gs/\StOk (aq ins gs).length z/\H d=-.lst (ds.map V.int)/\DOk ds/\0<=spot/\spot<=100/\gC TL fH H /\
 ∀L H',Tk TL H H'->FnW H' L 5->Q (.ref L) H'
theorem qY (ok:NetOk ins gs) (st:StOk (aq ins gs).length x):1<=x.length/\x.length<=11:=by
 have:x.length=(aq ins gs).length:=st.len;have:=ok.i4;have:=ok.g7;have:=ok.g1;rw[bK] at *;omega
theorem Bw (q:tl U H λx H1=>∃a kvs,x=.ref a/\H1 a=-.dK kvs/\∀r,H1 r=none->Q (.ref r) (upd H1 r (cT (pc a)))):yZ tl U H Q:=q
def LvV (xs:List Str) (H:Hp) (v:V):Prop:=v=.non\/∃D qs,v=.ref D/\H D=-.dK (aX qs)/\LvD xs qs
theorem rT {E:XK} (h:∃(F:Addr) (ins:List Str) (gs:J8) (z:Str) (ys xs:List Str) (ls:J7),vs=[.ref F,.str z]/\WD H F ins gs ys ls/\Met ins gs z xs/\NetOk ins gs/\ys.Perm xs/\∀v H',ao H H'->LvV xs H' v->Q v H'):jS vs H Q E:=by
 obtain⟨F,ins,gs,z,ys,xs,ls,e,wd,m,ok,pm,k⟩:=h;exact{F,ins,gs,z,ys,xs,ls,e,wd,m,ok,pm,λd qs H' S _ hd lv=>k _ _ S (.inr ⟨d,qs,rfl,hd,lv⟩),λH' S _=>k _ _ S (.inl rfl)}
def PpV (H H':Hp) (v:V):Prop:=v=.non\/∃p,v=.ref p/\H p=none/\PW H' 1 11 128 p
theorem uz {E:XK} (h:∃a li lg ins gvs gs z,vs=[.ref a,.str z]/\NAt H a li lg ins gvs gs/\NetOk ins gs/\StOk (aq ins gs).length z/\gC TL fH H/\∀v H',Tk TL H H'->PpV H H' v->Q v H'):jR TL vs H Q E:=by
 obtain⟨a,li,lg,ins,gvs,gs,z,e,NA,ok,st,tb,k⟩:=h;refine{a,li,lg,ins,gvs,gs,z,e,NA,ok,st,tb,λr p bs qs H' t hp one po lq pp=>k _ _ t (.inr {p,rfl,hp,?_}),λH' t _=>k _ _ t (.inl rfl)};have sh:=po.shows one;obtain⟨h1,lb,h2⟩:=pp;refine{_,h1,?_,by rw[Qa];exact HL lq lb,λv hv=>?_}
 ·have:0<qs.length:=List.length_pos_iff.mpr λe=>by have:=sh.zin;rw[e]at this;simp at this
  rw[Qa];exact HK lq lb this
 obtain⟨b,hb,rfl⟩:=Qj.mp hv;obtain⟨i,hi,e⟩:=Qo.mp hb;obtain⟨q,eq⟩:∃q,qs[i]?=some q:={_,Qc ⇑(wa lb hi)};exact{b,q.1,q.2,rfl,h2 i b q (by rw[Qc hi,e]) eq,qY ok (sh.st q (Qg eq))}
theorem kZ {blk:St->St} (hσ:U[i]?=- -.ref p) (hp:H p=-.lst (ss.map V.str)) (ne:1<=ss.length) (few:ss.length<=128) (ln:∀{x},x∈ss->1<=x.length/\x.length<=11) (hwk:∀x,wk (blk U) ((blk U).set 0 (-x))) (h0:∀x,((blk U).set 0 (-x))[0]?=- -x)
  (hte:∀x∈ss,∀H' (Q':VK),ao H H'->(∀n,Q' (.int n) H')->te ((blk U).set 0 (-.str x)) H' Q') (q:∀L H',ao H H'->H L=none->PW H' 1 11 128 L->Q (.ref L) H'):i7 (mP K (bY i)) (eU 0) gP (nr (bp (bY 0) (bp te eL))) blk U H Q:=by
 have big:1000<sizeLine:=by decide
 refine bS (s_list (ai hσ {p,rfl,{_,SqL.of hp},λL hL=>?_}));refine bU (xs:=ss.map V.str) (λm H' us=>ao H H'/\H' L=-.lst us/\us.length=m/\∀v∈us,PrW H' 1 11 v) {ag hL,ae,rfl,λv h=>nomatch h} (λm H' us p=>{p.2.1,SqL.of (p.1 _ _ hp)}) (λm v H' us e p=>?_) (λH6 us p6=>?_)
 ·obtain⟨SH,hd',lu,all⟩:=p;rw[Qi]at e
  cases ex:ss[m]? with
  | none=>rw[ex]at e;cases e
  | some x =>
  rw[ex]at e;cases e;have hm:m<ss.length:=(Qe.mp ex).1;have hx:=Qg ex;refine au {hwk _,i_yes (ce (i_tup (ak (ai (h0 _) (ak (hte x hx H' _ SH λn=>aB {by simp[sizeLine],λt ht=>?_}))))))};refine b9.mk (ag ht _ _ hd') (by rw[Qa];exact hm) ⇑(HI ne few big lu hm) {aQ (SH.trans (ag ht)) hL,ae,by rw[Qk,lu];rfl,sX (ao.refl _) ht hd' all (ln hx).1 (ln hx).2}
 obtain⟨S6,hd6,lu,all⟩:=p6;rw[Qa]at lu;exact q L H6 S6 hL {us,hd6,⇑(HH ne few lu),⇑(HG ne few lu),all}
section
theorem lT:FnScope ["net", "standing", "d", "spot", "ways", "known", "rows", "found", "told", "far"] ["net", "standing", "d", "spot"] (aC (top 47)):=by fin2
theorem uI {TL:Addr} {f:Addr} {fd:FuncData} (Fu:Fun K "_law_papers" "_law_papers" (top 47) f fd) (T:Txt K mg TT) (f_law_ways:Fn P w K mg base "_law_ways" ["net", "standing"] 12 qZ) (f_law_levels:Fn P w K mg base "_law_levels" ["ways", "standing"] 1 jS) (f_rest_paper:Fn P w K mg base "rest_paper" ["net", "standing"] 16 (jR TL)):FnOk P w K mg base CX0 17 f fd ["net", "standing", "d", "spot"] (pE TL):=by
 have S:=lT;w_up;obtain⟨a,li,lg,ins,gvs,gs,z,d,ds,spot,rfl,NA,ok,st,hd,dok,s0,s1,tb,k⟩:=h;have hu:=dC hr;refine'{?_,?bb,?_}
 case bb =>
  walk_at "b";exact aF 4 S.nd (a8 f_law_ways hr (aa (pv 0) (aa (pv 1) af aj) aj));exact aF 5 S.nd (a8 f_law_levels hr (aa (pv 4) (aa (pv 1) af aj) aj));exact aF 6 S.nd (aE (fL rfl) (by rfl) T.n_sorted Xi (aa (pv 4) af aj));refine' aF 7 S.nd ?e
  case e =>
   walk_at "q";exact(dB "k" [("rows", 6),("d", 2),("spot", 3)] (cA (by rfl) T.n_range (aa (aE aM (by rfl) T.n_len QL (aa (pv 6) af aj)) af se_call)) (λ_ _ _ _=>(br (aa (aD (d5 (K:=K) rfl) (pv 1) (pv 0)) (aa (ap aS (aD (d5 (K:=K) rfl) (pv 2) (ap aR (pv 3) (ap aS (pv 0) ad))) (aD (d5 (K:=K) rfl) (aZ (aa ad (aa ad (aa ad af aK) aK) aK)) (ap aS (aD (d5 (K:=K) rfl) (pv 2) (pv 3)) ad))) af)))))
  refine' bJ (cR QH QI QJ be (pv 7) ?a)
  case a =>
   walk_at "q";exact(dB "one" [("ways", 4)] (bw (pv 6)) (λ_ _ _ _=>(br (aa (pv 0) (aa (aE (dX (K:=K) rfl) (by rfl) T.n_len QL (aa (bC hu (pv 1) (pv 0)) af)) af se_call) aj))))
  exact aF 8 S.nd (a8 f_rest_paper hr (aa (pv 0) (aa (pv 1) af aj) aj));exact(aL tq (pv 8) oa rfl);exact(bJ (cR QH QI QJ be (pv 7) (aa (dI dy (by rfl) T.n_list XB (aa (pv 8) af aj)) af se_call)));exact(aL tq (pv 5) oa rfl);exact aF 9 S.nd (ap aR (ap aS (aD aH (pv 2) (ap aR (pv 3) ad)) ad) (aE (ve rfl) (by rfl) T.n_max PyProof.Rows.boot_max (aa (ya (pv 5)) af se_call)));refine' bJ (cR QH QI QJ be (pv 7) ?a)
  case a =>
   walk_at "q";exact(dB "one" [("far", 9),("known", 5)] (bw (pv 6)) (λ_ _ _ _=>(br (aa (pv 0) (aa (ap gb (pv 1) (bC hu (pv 2) (pv 0))) af) aj))))
  refine' bJ (cR QH QI QJ be (pv 7) ?a)
  case a =>
   walk_at "q";exact(dB "one" [("d", 2),("far", 9),("spot", 3),("known", 5)] (bw (pv 6)) (λ_ _ _ _=>(br (aa (pv 0) (aa (ap aR (ap dq (ap gb (pv 2) (bC hu (pv 4) (pv 0))) (ap we ad ad)) (aD (d5 (K:=K) rfl) (pv 1) (ap aR (pv 3) ad))) af) aj))))
  exact(aJ (pv 7))
 x_go;kt_k;refine bj (bP (ak (ai rfl (ak (ai rfl (aB ?_))))));refine{a,li,lg,ins,gvs,gs,z,rfl,NA,ok,st,λF ys xs ls H1 S1 hF0 met pm wd=>au ?_};have few:=met.few7 ok;have lys:=pm.length_eq;have ndy:=pm.nodup_iff.mpr met.nd;have hd1:=S1 _ _ hd;have NA1:=NA.same S1;have tb1:=dU tb S1;obtain⟨hF,lls,hls⟩:=id wd;have sty:∀x∈ys,StOk (aq ins gs).length x:=λx hx=>met.st x (pm.mem_iff.mp hx);obtain⟨e1,e10,_,ea1⟩:=cM dok (i:=spot+1) ⋯ ⋯;obtain⟨e2,e20,e21,ea2⟩:=cM dok (i:=spot+2) ⋯ ⋯;obtain⟨e0,e00,_,ea0⟩:=cM dok (i:=spot) ⋯ ⋯;kt_k;refine bj (bP (ak (ai rfl (ak (ai rfl (aB ?_))))));refine rT {F,ins,gs,z,ys,xs,ls,rfl,wd,met,ok,pm,λkn H2 S2 lvv=>au ?_};have hF2:=S2 _ _ hF;kt_k;refine bj (c7 (ak (ai rfl (aB {F,ys,rfl,r9 (.inl hF2) lls,⇑(HF few lys lls),λp ss hp pm2 so=>au ?_}))));ctx_has H2 p H3 S3 q3 aI hp;have lss:=pm2.length_eq;have S13:=S2.trans S3;have hd3:=S13 _ _ hd1;have hF3:=S3 _ _ hF2;have sts:∀x∈ss,StOk (aq ins gs).length x:=λx hx=>sty x (pm2.mem_iff.mp hx)
 have ne:1<=ss.length:=by
  have:=List.length_pos_of_mem met.start;exact HE few lys lls lss this
 have lnx:∀{x},x∈ss->1<=x.length/\x.length<=11:=λhx=>qY ok (sts _ hx);have lvv3:LvV xs H3 kn:=lvv.imp id λ⟨D,qs,e,h,l⟩=>{D,qs,e,S3 _ _ h,l};clear lvv;kt_k;refine bj (cw (ak (bS (s_rng1 (ak (c7 (ak (ai rfl (aB {p,_,rfl,.inl (SqL.of q3),aB {_,rfl,by rw[Qa];omega,by rw[Qa];omega,λL hL=>?_} })))))))));rw[Qa,Xq];refine fK (n:=ss.length) (λm H' us=>ao H3 H'/\H' L=-.lst us/\us.length=m/\∀v∈us,PrW H' 1 11 v) {ag hL,ae,rfl,λv h=>nomatch h} (λm H' us p=>p.2.1) (λm H' us hm p=>?_) (λH4 us p4=>?_)
 ·obtain⟨SH,hd',lu,all⟩:=p;obtain⟨x,ex⟩:∃x,ss[m]?=some x:={_,Qc hm};obtain⟨l1,l2⟩:=lnx (Qg ex);have hdm:=SH _ _ hd3;have m0:0<=(0+(m:Int)) % 20:=by omega
  have m1:(0+(m:Int)) % 20<20:=by omega
  obtain⟨c,_,_,ec⟩:=cM dok (i:=spot+(0+(m:Int)) % 20) ⋯ ⋯;refine au {by repeat' (first|exact trivial|refine{rfl,?_}),i_yes (ce ?_)};refine i_tup (ak (aO (ai rfl (ai rfl (bh (v:=.str x) (SqL.of (SH _ _ q3)) (by rw[show (0:Int)+(m:Int)=((m:Nat):Int) by omega];exact ck (by rw[Qi,ex];rfl)) ?_)))));refine ak (aO (aO (ai rfl (aO (ai rfl (aO (ai rfl (i_c (cZ (by decide) (b_ (bh (SqL.of hdm) ec ?_)))))))))));refine aO (cw (ak (i_c (ak (i_c (ak (i_c (aB {by simp[sizeLine],λq hq=>?_}))))))));ctx_has H' q H5 S5 q5 aI hq
  obtain⟨g,eg,gp⟩:∃g:Int,atI [V.int 3,V.int 9,V.int 200] (e0 % 3)=some (.int g)/\0<g:=by
   have:e0 % 3=0\/e0 % 3=1\/e0 % 3=2:=by omega
   rcases this with e|e|e <;> rw[e]
   ·exact{3,rfl,by decide}
   ·exact{9,rfl,by decide}
   exact{200,rfl,by decide}
  refine aO (aO (ai rfl (ai rfl (bh (SqL.of (S5 _ _ hdm)) ea0 (i_c (cZ (by decide) (bh (SqL.of q5) eg (cZ gp ?_))))))));refine aB {by simp[sizeLine],λt ht=>?_};have hd5:=S5 _ _ hd';have:=sX (i:=c % g) S5 ht hd' all l1 l2;refine b9.mk (ag ht _ _ hd5) hm ⋯ {?_,ae,by rw[Qk,lu];rfl,this};exact aQ ((SH.trans S5).trans (ag ht)) hL
 obtain⟨S4,hd4,lu,all⟩:=p4;have pw4:PW H4 1 11 128 L:={us,hd4,⋯,⋯,all};refine aB {by simp[sizeLine],λG hG=>au ?_};have GL:L≠G:=λe=>by rw[<-e,hd4]at hG;cases hG
 ctx_has H4 G H5 S5 q5 aI hG;have f5:FnW H5 G 1:={[L],q5,by simp,λb hb=>by rw[Qu]at hb;rw[hb];exact{GL,pw4.same S5} };have S35:=S4.trans S5;have G3:H3 G=none:=ao.free S4 hG;clear hd4 all q5 pw4;have hd5:=S35 _ _ hd3;have q35:=S35 _ _ q3;have hF5:=S35 _ _ hF3;have hls5:∀(i:Nat) y l,ys[i]?=-y->ls[i]?=-l->H5 l=-.lst ((nxS ins gs y).map V.str):=λi y l e1 e2=>S35 _ _ (S13 _ _ (hls i y l e1 e2));have lvv5:LvV xs H5 kn:=lvv3.imp id λ⟨D,qs,e,h,l⟩=>{D,qs,e,S35 _ _ h,l};obtain⟨us5,hG5,_⟩:=id f5;kt_k;refine s_drop (i_bm (ai rfl {i_tyL hG5,ak ?_}));refine kZ rfl q35 ne ⋯ lnx (λx=>by repeat' (first|exact trivial|refine{rfl,?_})) (λ_=>rfl) (λx hx H' Q' SH qn=>?_) λL H6 S6 hL pw6=>?_
 ·obtain⟨i,hi,exi⟩:=Qo.mp (pm2.mem_iff.mp hx);have f1:ys[i]?=-x:=by rw[Qc hi,exi]
  obtain⟨b,f2⟩:∃b,ls[i]?=some b:={_,Qc ⇑(HD lls lss lu hi)};exact c7 (ak (i_dget (ai rfl (ai rfl {F,_,rfl,eA (.inl (SH _ _ hF5)) ndy f1 f2,aB {b,_,rfl,.inl (SqL.of (SH _ _ (hls5 i x b f1 f2))),qn _} }))))
 have LG:L≠G:=λe=>by rw[e,hG5]at hL;cases hL
 obtain⟨us6,hG6,l6,f6⟩:=(f5.same S6).put LG pw6;refine aB (d9 hG6 ⇑(HC (by decide) l6) ?_);have S36:ao H3 (upd H6 G (.lst (us6++[V.ref L]))):=aQ (S35.trans S6) G3;generalize upd H6 G (.lst (us6++[V.ref L]))=H7 at *;clear hG6 hG5 hls5 hF5 q35 hd5 lvv5 f5;have S17:=S13.trans S36;have tb7:=dU tb1 S17;have NA7:=NA1.same S17;have hd7:=S36 _ _ hd3;have q7:=S36 _ _ q3;have lvv7:LvV xs H7 kn:=lvv3.imp id λ⟨D,qs,e,h,l⟩=>{D,qs,e,S36 _ _ h,l};kt_k;refine bj (bP (ak (ai rfl (ak (ai rfl (aB ?_))))));refine uz {a,li,lg,ins,gvs,gs,z,rfl,NA7,ok,st,tb7,λtv H8 t8 ppv=>au ?_};have f8:FnW H8 G 2:=f6.keep (t8.lst tb7) (t8.tup tb7);have tb8:=t8.tab;have t18:Tk TL H3 H8:=(Tk.of (dU tb1 S13) S36).trans t8;have tb3:=dU tb1 S13;have lvv8:LvV xs H8 kn:=lvv7.imp id λ⟨D,qs,e,h,l⟩=>{D,qs,e,t8.old _ _ h (pi tb7 h λ_ z=>nomatch z),l};let I42:IvJ:=λσ' H'=>σ'=[-.ref a,-.str z,-.ref d,-.int spot,-.ref F,-kn,-.ref p,-.ref G,-tv,none]/\Tk TL H3 H'/\FnW H' G 3/\LvV xs H' kn;with_reducible refine de I42 (λR hR=>?_) (λσ' H9 pv=>?_)
 ·kt_k;refine i_test (aO (ai rfl (i_c {rfl,{_,rfl,?_} })));rcases ppv with e|⟨tp,e,tp0,tpw⟩
  ·subst e;refine ifF rfl ?_;refine hR _ _ {rfl,t18,?_,lvv8};obtain⟨ps,h1,h2,h3⟩:=f8;exact{ps,h1,⇑(Hz h2),h3}
  subst e;refine ifT rfl ?_;obtain⟨us8,hG8,_⟩:=id f8;obtain⟨vt,ht,lt1,lt2,at'⟩:=tpw;refine s_drop (i_bm (ai rfl {i_tyL hG8,ak (c7 (ak (ai rfl (aB {tp,_,rfl,.inl (SqL.of ht),λc hc=>aB ?_}))))}));ctx_has H8 c H10 S10 q10 aI hc;have cG:c≠G:=λe=>by rw[e,hG8]at hc;cases hc
  obtain⟨us9,hG9,l9,f9⟩:=(f8.same S10).put cG {vt,q10,lt1,lt2,λv hv=>(at' v hv).mono λb xs e=>S10 _ _ e};refine d9 hG9 ⇑(Hy (by decide) l9) ?_;refine hR _ _ {rfl,Tk.upd (t18.trans (Tk.of tb8 S10)) G3 hG9,f9,?_};exact lvv8.imp id λ⟨D,qs,e,h,l⟩=>{D,qs,e,by rw[am λzz=>by rw[zz,hG8]at h;cases h];exact S10 _ _ h,l}
 obtain⟨rfl,t39,f9,lvv9⟩:=pv;have tb9:=t39.tab;have hd9:=t39.lst tb3 _ _ hd3;have q9:=t39.lst tb3 _ _ q3;clear lvv8 lvv7 lvv3 ppv;let I43:IvJ:=λσ' H'=>(∃x9,σ'=[-.ref a,-.str z,-.ref d,-.int spot,-.ref F,-kn,-.ref p,-.ref G,-tv,x9])/\Tk TL H3 H'/\FnW H' G 5;with_reducible refine de I43 (λR hR=>?_) (λσ' H9 pv=>?_)
 ·kt_k;refine i_test (aO (ai rfl (i_c {rfl,{_,rfl,?_} })));rcases lvv9 with e|⟨D,qs,e,hD,lq,lb⟩
  ·subst e;refine ifF rfl ?_;refine hR _ _ {⟨_,rfl⟩,t39,?_};obtain⟨ps,h1,h2,h3⟩:=f9;exact{ps,h1,⇑(oq6 h2),h3}
  subst e;refine ifT rfl ?_;kt_k;refine bj (aO (aO (aO (ai rfl (aO (ai rfl (i_c (b_ (bh (SqL.of hd9) ea1 (i_c (cZ (by decide) ?_)))))))))));refine c7 (ak (Bw (ai rfl {D,_,rfl,hD,λr hr=>aB {r,D,qs,rfl,ae,?_,?_,λM hM _=>b_ (au ?_)} })))
  ·rw[am λe=>by rw[<-e,hD]at hr;cases hr];exact hD
  ·intro e;have:=lq z met.start;rw[e]at this;simp at this
  generalize hE:upd H9 r _=H10;obtain⟨S10,_⟩:=aI hr hE;clear hE;obtain⟨qM,hqM,eM⟩:=hM;have bM:=lb qM hqM;rw[eM]at bM;generalize hfar:e1 % 5+M=far;have bf:0<=far/\far<=300:=by omega
  have f10:=f9.same S10;have hD10:=S10 _ _ hD;have q10:=S10 _ _ q9;have hd10:=S10 _ _ hd9;have t10:=t39.trans (Tk.of tb9 S10);obtain⟨us10,hG10,_⟩:=id f10;have DG:D≠G:=λe=>by rw[e,hG10]at hD10;cases hD10
  have pG:p≠G:=λe=>by rw[e,G3]at q3;cases q3
  have dG:d≠G:=λe=>by rw[e,G3]at hd3;cases hd3
  clear hfar;kt_k;refine s_drop (i_bm (ai rfl {i_tyL hG10,ak ?_}))
  have dgs:∀{x H'},x∈ss->H' D=-.dK (aX qs)->∃n:Int,(0<=n/\n<=200)/\cO H' D (.str x) (-.int n):=λ{x H'} hx e=>by
   obtain⟨n,hn,ev⟩:=qD (lq x (pm.mem_iff.mp (pm2.mem_iff.mp hx)));exact{n,lb _ hn,.inl {_,Sum.inr x,.inl e,rfl,ev.symm} }
  refine kZ rfl q10 ne ⋯ lnx (λx=>by repeat' (first|exact trivial|refine{rfl,?_})) (λ_=>rfl) (λx hx H' Q' SH qn=>?_) λL H11 S11 hL pw11=>?_
  ·obtain⟨n,_,dg⟩:=dgs hx (SH _ _ hD10);exact aO (ai rfl (i_dget (ai rfl (ai rfl {D,_,rfl,dg,b_ (qn _)}))))
  have LG:L≠G:=λe=>by rw[e,hG10]at hL;cases hL
  obtain⟨us11,hG11,l11,f11⟩:=(f10.same S11).put LG pw11;refine aB (d9 hG11 ⇑(Hw (by decide) l11) ?_);have t11:Tk TL H3 (upd H11 G (.lst (us11++[V.ref L]))):=Tk.upd (t10.trans (Tk.of t10.tab S11)) G3 hG11;have q11:upd H11 G (.lst (us11++[V.ref L])) p=_:=(am pG).trans (S11 _ _ q10);have hd12:upd H11 G (.lst (us11++[V.ref L])) d=_:=(am dG).trans (S11 _ _ hd10);have hD12:upd H11 G (.lst (us11++[V.ref L])) D=_:=(am DG).trans (S11 _ _ hD10);generalize upd H11 G (.lst (us11++[V.ref L]))=H12 at *;clear hG11 hG10 hD10 hd10 q10 hL LG;obtain⟨us12,hG12,_⟩:=id f11;refine s_drop (i_bm (ai rfl {i_tyL hG12,ak ?_}));refine kZ rfl q11 ne ⋯ lnx (λx=>by repeat' (first|exact trivial|refine{rfl,?_})) (λ_=>rfl) (λx hx H' Q' SH qn=>?_) λL H13 S13' hL pw13=>?_
  ·obtain⟨n,bn,dg⟩:=dgs hx (SH _ _ hD12);refine aO (aO (aO (ai rfl (i_dget (ai rfl (ai rfl {D,_,rfl,dg,b_ ?_}))))));refine aO (i_c (i_c (cZ {by decide,by decide,by decide} (cZ (.inl {⋯,⋯}) ?_))));exact aO (ai rfl (aO (ai rfl (i_c (b_ (bh (SqL.of (SH _ _ hd12)) ea2 (b_ (qn _))))))))
  have LG:L≠G:=λe=>by rw[e,hG12]at hL;cases hL
  obtain⟨us13,hG13,l13,f13⟩:=(f11.same S13').put LG pw13;refine aB (d9 hG13 ⇑(Hv (by decide) l13) ?_);exact hR _ _ {⟨_,rfl⟩,Tk.upd (t11.trans (Tk.of t11.tab S13')) G3 hG13,f13}
 obtain⟨⟨x9,rfl⟩,t9,f⟩:=pv;exact bH (ai rfl (k _ _ ((Tk.of tb (S1.trans S13)).trans t9) f))
end
def MkP (H0:Hp) (U:St) (n:Nat) (te:TE):Prop:=∀(H:Hp) (Q:VK),ao H0 H->(∀p H',ao H H'->PW H' 0 30 n p->Q (.ref p) H')->te U H Q
def MkT (H0:Hp) (U:St) (te:TE):Prop:=∀(H:Hp) (Q:VK),ao H0 H->(∀v H',ao H H'->PrW H' 0 30 v->Q v H')->te U H Q
def MkA (H0:Hp) (U:St) (k:Nat) (ta:TA):Prop:=∀(H:Hp) (Q:List V->Hp->Prop),ao H0 H->(∀vs H',ao H H'->vs.length=k->(∀v∈vs,∃p,v=.ref p/\PW H' 0 30 400 p)->Q vs H')->ta U H Q
def MkO (U:St) (t:TO):Prop:=∀(H:Hp) (Q:Option Int->Hp->Prop),(∀o,Q o H)->t U H Q
section
variable {K:PySem.W.Frag} {H0:Hp} {U:St}
variable {i n m:Nat}
theorem kI {p:Addr} (e:U[i]?=- -.ref p) (h:PW H0 0 30 n p):MkP H0 U n (bY i):=λH Q S q=>ai e (q p H (ao.refl _) (h.same S))
theorem tE {v:V} (e:U[i]?=- -v) (h:PrW H0 0 30 v):MkT H0 U (bY i):=λH Q S q=>ai e (q v H (ao.refl _) (h.mono λb xs e=>S _ _ e))
variable {te ta tb:TE}
theorem yD (h:MkP H0 U n te) (l:n<=m):MkP H0 U m te:=λH Q S q=>h H Q S λp H' S' ⟨vs,h1,h2,h3,h4⟩=>q p H' S' {vs,h1,h2,⇑(B8 l h3),h4}
theorem dZ:MkO U nv:=λH Q q=>i_nopart (q _)
theorem ip {x:Int} (e:U[i]?=- -.int x):MkO U (sI (bY i)):=λH Q q=>i_part (ai e (tO (q _)))
theorem oi {x c:Int} (e:U[i]?=- -.int x):MkO U (sI (tOp (rI0 λi j=>.int (i+j)) (bY i) (tC (.int c)))):=λH Q q=>i_part (aO (ai e (i_c (b_ (tO (q _))))))
theorem jd {p:Addr} {tl th:TO} (e:U[i]?=- -.ref p) (h:PW H0 0 30 n p) (hl:MkO U tl) (hh:MkO U th):MkP H0 U n (tSl (AM K) (bY i) tl th):=λH Q S q=>by
 obtain⟨vs,h1,h2,h3,h4⟩:=h.same S;refine i_sl (ai e (hl H _ λlo=>hh H _ λhi=>jg (SqL.of h1) λr hr=>?_));refine q r _ (ag hr) {_,ae,QB _,QY jH.2 h3,λv hv=>(h4 v (jH.1 v hv)).mono λb xs e=>ag hr _ _ e}
theorem Bm {p:Addr} (e:U[i]?=- -.ref p) (h:PW H0 0 30 n p):MkP H0 U n (BJ K (bY i)):=λH Q S q=>by
 obtain⟨vs,h1,h2,h3,h4⟩:=h.same S;refine ai e {p,vs,rfl,SqL.of h1,λr hr=>?_};exact q r _ (ag hr) {_,ae,QB _,by rw[List.length_reverse];exact h3,λv hv=>(h4 v (List.mem_reverse.mp hv)).mono λb xs e=>ag hr _ _ e}
theorem ff (ha:MkP H0 U n ta) (hb:MkP H0 U m tb) (l:n+m<=1000:=by decide):MkP H0 U (n+m) (tOp xW ta tb):=λH Q S q=>by
 refine aO (ha H _ S λp H1 S1 pw1=>hb H1 _ (S.trans S1) λp2 H2 S2 pw2=>?_);have big:100000<sizeLine:=by decide
 obtain⟨vs,h1,_,h3,h4⟩:=pw1.same S2;obtain⟨us,g1,_,g3,g4⟩:=pw2;refine gL h1 g1 ⇑(GY l big h3 g3) λr hr=>q r _ ((S1.trans S2).trans (ag hr)) {_,ae,QB _,by rw[Qk];exact GX h3 g3,λv hv=>?_};rcases Qq.mp hv with h|h
 ·exact(h4 v h).mono λb xs e=>ag hr _ _ e
 exact(g4 v h).mono λb xs e=>ag hr _ _ e
theorem iO (h:MkT H0 U te):MkP H0 U 1 (vA (bp te eL)):=λH Q S q=>by
 refine cw (ak (h H _ S λv H1 S1 pv=>aB {by simp[sizeLine],λr hr=>?_}));refine q r _ (S1.trans (ag hr)) {_,ae,QB _,Qh _,λw hw=>?_};rw[Qu]at hw;rw[hw];exact pv.mono λb xs e=>ag hr _ _ e
theorem oo (h:MkP H0 U n te) (l:n<=1000:=by decide):MkP H0 U n (tCB (vT K) (bp te eL)):=λH Q S q=>by
 refine c7 (ak (h H _ S λp H1 S1 pw=>aB ?_));obtain⟨vs,h1,h2,h3,h4⟩:=pw;obtain⟨bs,rfl,hb⟩:=nU h4;rw[Qa]at h3;refine{p,bs,ph H1,rfl,SqL.of h1,λb hb'=>?_,⇑(GW l h3),λr bs' hr pm _=>?_}
 ·obtain⟨q,e,_⟩:=hb b hb';rw[np e];exact e
 refine q r _ (S1.trans (ag hr)) {_,ae,QB _,by rw[Qa,pm.length_eq];exact h3,λv hv=>?_};obtain⟨b,hb',rfl⟩:=Qj.mp hv;obtain⟨q,e,l⟩:=hb b (pm.mem_iff.mp hb');exact{b,q.1,q.2,rfl,ag hr _ _ e,l}
theorem oj:MkA H0 U 0 eL:=λH Q S q=>aB (q [] H (ao.refl _) rfl λv h=>nomatch h)
theorem dr {k:Nat} {tr:TA} (h:MkP H0 U n te) (r:MkA H0 U k tr) (l:n<=400:=by decide):MkA H0 U (k+1) (bp te tr):=λH Q S q=>by
 refine ak (yD h l H _ S λp H1 S1 pw=>r H1 _ (S.trans S1) λvs H2 S2 lv hv=>?_);refine q _ H2 (S1.trans S2) (by rw[QT,lv]) λv hv'=>?_;rcases QP.mp hv' with e|e
 ·exact{p,e,pw.same S2}
 exact hv v e
end
def LPp (H:Hp) (L:Addr) (k:Nat):Prop:=∃vs:List V,H L=-.lst vs/\vs.length=k/\∀v∈vs,∃p,v=.ref p/\PW H 0 30 400 p
theorem LPp.same {k:Nat} (S:ao H H') (h:LPp H L k):LPp H' L k:=by
 obtain⟨vs,h1,h2,h3⟩:=h;exact{vs,S _ _ h1,h2,λv hv=>by obtain⟨p,e,pw⟩:=h3 v hv;exact{p,e,pw.same S} }
theorem LPp.ne {k:Nat} (h:LPp H L (k+1)) (pw:PW H 0 30 n p):p≠L:=λe=>by
 obtain⟨vs,h1,h2,h3⟩:=h;obtain⟨us,g1,_,_,g4⟩:=pw;rw[e,h1]at g1;cases g1
 match vs,h2 with
 | v::vs,_ =>
  obtain⟨q,e1,us,hq,_⟩:=h3 v (by simp);obtain⟨b,s,i,e2,hb,_⟩:=g4 v (by simp);rw[e1]at e2;cases e2;rw[hq]at hb;cases hb
theorem qx {r:Addr} {k:Nat} (hr:H r=none) (lv:vs.length=k) (h:∀v∈vs,∃p,v=.ref p/\PW H 0 30 400 p):LPp (upd H r (.lst vs)) r k :=
 {vs,ae,lv,λv hv=>by obtain⟨p,e,pw⟩:=h v hv;exact{p,e,pw.same (ag hr)} }
theorem PW.zero (h:PW H lo 11 n p):PW H 0 30 n p:=by
 obtain⟨vs,h1,h2,h3,h4⟩:=h;exact{vs,h1,QB _,h3,λv hv=>by obtain⟨b,s,i,e,hb,l1,l2⟩:=h4 v hv;exact{b,s,i,e,hb,QB _,⇑(GV l2)} }
def vP:Sp:=λvs H Q _=>∃(p:Addr) (x:Int) (a li lg:Addr) (ins:List Str) (gvs:List V) (gs:J8),vs=[.ref p,.int x,.ref a]/\0<=x/\x<10007/\PW H 1 11 128 p/\NAt H a li lg ins gvs gs/\NetOk ins gs/\∀r H',ao H H'->PW H' 0 30 400 r->Q (.ref r) H'
theorem ot (a b:Str):(a++b).length=a.length+b.length:=by
 show (a.cps++b.cps).size=_;rw[Xv];rfl
section
theorem pQ:FnScope ["paper", "x", "net", "at", "here", "number", "way", "spot", "more", "other", "some"] ["paper", "x", "net"] (aC (top 48)):=by fin2
theorem yz {f:Addr} {fd:FuncData} (Fu:Fun K "_law_bent" "_law_bent" (top 48) f fd) (T:Txt K mg TT) (f_law_standing:Fn P w K mg base "_law_standing" ["x", "net"] 1 jQ):FnOk P w K mg base CX0 2 f fd ["paper", "x", "net"] vP:=by
 have S:=pQ;w_up;obtain⟨p,x,a,li,lg,ins,gvs,gs,rfl,x0,x1,pw,NA,ok,k⟩:=h;have hu:=dC hr;refine'{?_,?bb,?_}
 case bb =>
  walk_at "b";exact aF 3 S.nd (ap aS (pv 1) (aE aM (by rfl) T.n_len QL (aa (pv 0) af aj)));exact(rl (aD aH (pv 0) (pv 3)) (gY rfl (bE (bR 4 S.nd) (bE (bR 5 S.nd) ee))));exact aF 6 S.nd (ap aS (ap cK (pv 1) ad) ad);exact aF 7 S.nd (ap aS (pv 1) (aE dA (by rfl) T.n_len QL (aa (pv 4) af aj)));exact aF 8 S.nd (a8 f_law_standing hr (aa (ap cK (pv 1) ad) (aa (pv 2) af aj)));refine' aF 9 S.nd ?e
  case e =>
   walk_at "q";exact(pv 4);exact(ap aR (pv 5) (aD aH (aZ (aa ad (aa (mG iF ad) (aa (mG iF ad) af)) aK)) (ap aS (pv 1) ad)))
  refine' aF 10 S.nd ?e
  case e =>
   walk_at "q";exact(pv 0);exact(ap cu (a9 cq (pv 0) bu (bt (pv 3))) (a9 cq (pv 0) (bt (ap aR (pv 3) ad)) bu));exact(ap cu (ap cu (a9 cq (pv 0) bu (bt (pv 3))) (aZ (aa (pv 9) af aj))) (a9 cq (pv 0) (bt (pv 3)) bu));exact(AT (pv 0) (mG iF ad) (λ_ _ _ q=>{1,rfl,q}))
  exact aF 10 S.nd (ap cu (pv 10) (aZ (aa (ap cu (ap cu (a9 cq (pv 0) bu (bt (pv 3))) (aZ (aa (pv 9) af aj))) (a9 cq (pv 0) (bt (ap aR (pv 3) ad)) bu)) (aa (aE (hX rfl) (by rfl) T.n_sorted Xi (aa (ap cu (pv 0) (aZ (aa (br (aa (pv 8) (aa (ap aS (pv 1) ad) af) aj)) af se_tup))) af)) af se_call) se_bin)));exact aF 10 S.nd (ap cu (pv 10) (aZ (aa (aE (hX rfl) (by rfl) T.n_sorted Xi (aa (ap cu (pv 0) (aZ (aa (br (aa (ap bO (pv 4) aP) (aa ad af aK))) af se_tup))) af)) (aa (ap cu (aZ (aa (br (aa aP (aa ad af aK) aK)) af se_tup)) (pv 0)) (aa (ap cu (a9 cq (pv 0) bu (bt (ap aR (pv 3) ad))) (a9 cq (pv 0) (bt (pv 3)) bu)) af se_bin) se_bin) se_call)));refine' bJ (cR QH QI QJ be (pv 10) ?a)
  case a =>
   walk_at "q";exact(aE (hX rfl) (by rfl) T.n_sorted Xi (aa (ap cu (pv 0) (aZ (aa (br (aa (ap bO (ap bO (a9 fc (pv 4) bu (bt (pv 7))) aP) (a9 fc (pv 4) (bt (ap aR (pv 7) ad)) bu)) (aa (ap aS (pv 1) ad) af))) af se_tup))) af))
  exact(aJ (aD aH (pv 10) (pv 6)))
 x_go;obtain⟨vs,hp,l1,l2,hv⟩:=id pw;have m0:0<=x % (vs.length:Int):=Int.emod_nonneg _ ⋯;have m1:x % (vs.length:Int)<vs.length:=Int.emod_lt_of_pos _ ⋯;obtain⟨j,ej⟩:∃j:Nat,x % (vs.length:Int)=(j:Int):={(x % (vs.length:Int)).toNat,⋯};obtain⟨v,ev⟩:∃v,vs[j]?=some v:={_,Qc ⋯};obtain⟨b,y,n,rfl,hb,y1,y2⟩:=hv v (Qg ev);kt_k;refine bj (aO (ai rfl (c7 (ak (ai rfl (aB {p,_,rfl,.inl (SqL.of hp),cZ ⋯ (au ?_)}))))));rw[ej];kt_k;refine bj (aO (ai rfl (ai rfl (bh (SqL.of hp) (ck ev) ?_))));refine{b,_,rfl,SqT.of hb,rfl,?_};refine{_,_,rfl,au {_,_,rfl,au {rfl,?_} } };kt_k;refine bj (aO (aO (ai rfl (i_c (cZ {by decide,by decide} (i_c (cZ (by decide) (au ?_))))))));have w0:0<=x / 128 % 10:=by omega
 have w1:x / 128 % 10<10:=by omega
 generalize hway:x / 128 % 10=way at *;clear hway;kt_k;refine bj (aO (ai rfl (c7 (ak (ai rfl (aB {y,rfl,⇑(A0 (by decide) y1 y2),cZ ⋯ (au ?_)}))))));generalize x % (y.length:Int)=spot at *;kt_k;refine bj (bP (ak (aO (ai rfl (i_c (cZ {by decide,by decide} (ak (ai rfl (aB {_,a,li,lg,ins,gvs,gs,rfl,NA,ok,λmore H1 stm S1=>au ?_})))))))));obtain⟨mo1,mo2⟩:=qY ok stm;kt_k
 obtain⟨g,eg⟩:∃g:Int,atI [V.int 1,V.int ((unop% Neg.neg 1)),V.int ((unop% Neg.neg 9))] (x % 3)=some (.int g):=by
  have:x % 3=0\/x % 3=1\/x % 3=2:=by omega
  rcases this with e|e|e <;> rw[e]
  ·exact{1,rfl}
  ·exact{(unop% Neg.neg 1),rfl}
  exact{(unop% Neg.neg 9),rfl}
 refine bj (i_tup (ak (ai rfl (ak (aO (ai rfl (aO (cw (ak (i_c (ak {1,rfl,ak {9,rfl,aB {by simp[sizeLine],λq hq=>?_} } })))))))))));ctx_has H1 q H2 S2 q2 aI hq;refine aO (ai rfl (i_c (cZ (by decide) (bh (SqL.of q2) eg (b_ (aB {by simp[sizeLine],λt ht=>au ?_}))))));ctx_has H2 t H3 S3 q3 aI ht;have S03:=S1.trans (S2.trans S3);have pw3:=(pw.same S03).zero;have po:PrW H3 0 30 (.ref t):={t,y,_,rfl,q3,QB _,⇑(B7 y1 y2)};kt_k;refine bj (cw ((?mA:MkA H3 _ 4 _) H3 _ (ao.refl _) λvs4 H4 S4 l4 h4=>{⇑(GU (by decide) l4),λL hL=>au ?_}))
 case mA=>exact dr (kI rfl pw3) (dr (ff (jd rfl pw3 dZ (ip rfl)) (jd rfl pw3 (oi rfl) dZ)) (dr (ff (ff (jd rfl pw3 dZ (ip rfl)) (iO (tE rfl po))) (jd rfl pw3 (ip rfl) dZ)) (dr (Bm rfl pw3) oj)))
 have lw5:=qx hL l4 h4;have S5:ao H3 (upd H4 L (.lst vs4)):=S4.trans (ag hL);generalize upd H4 L (.lst vs4)=H5 at *;have pw5:=pw3.same S5;have po5:PrW H5 0 30 (.ref t):=po.mono λb xs e=>S5 _ _ e;clear h4 hL;kt_k;obtain⟨us5,hL5,_⟩:=id lw5;refine bj (aO (ai rfl (cw ((?mA:MkA H5 _ 2 _) H5 _ (ao.refl _) λvs6 H6 S6 l6 h6=>{⇑(GT (by decide) l6),λL6 hL6=>?_}))))
 case mA =>
  refine dr (ff (ff (jd rfl pw5 dZ (ip rfl)) (iO (tE rfl po5))) (jd rfl pw5 (oi rfl) dZ)) (dr (oo (ff (kI rfl pw5) (iO λH Q S q=>?_))) oj);refine i_tup (ak (ai rfl (ak (aO (ai rfl (i_c (cZ (by decide) (aB {by simp[sizeLine],λt ht=>?_}))))))));exact q _ _ (ag ht) {t,more,_,rfl,ae,QB _,⇑(B7 mo1 mo2)}
 obtain⟨us,hLa,lu,hua⟩:=lw5.same (S6.trans (ag hL6));obtain⟨ws,hLb,lw,hwa⟩:=qx hL6 l6 h6;refine gL hLa hLb ⇑(GS (by decide) lu lw) λr hr=>au ?_;have lw7:LPp (upd (upd H6 L6 (.lst vs6)) r (.lst (us++ws))) r 6:=qx hr (by rw[Qk];exact GR lu lw) λv hv=>(Qq.mp hv).elim (hua v) (hwa v);have S7:ao H5 (upd (upd H6 L6 (.lst vs6)) r (.lst (us++ws))):=(S6.trans (ag hL6)).trans (ag hr);generalize upd (upd H6 L6 (.lst vs6)) r (.lst (us++ws))=H7 at *;clear h6 hL6 hLa hLb hua hwa hr lw5 hL5;have pw7:=pw5.same S7;kt_k;refine bj (aO (ai rfl (cw ((?mA:MkA H7 _ 3 _) H7 _ (ao.refl _) λvs8 H8 S8 l8 h8=>{⇑(GQ (by decide) l8),λL8 hL8=>?_}))))
 case mA =>
  refine dr (oo (ff (kI rfl pw7) (iO λH Q S q=>?_))) (dr (ff (iO λH Q S q=>?_) (kI rfl pw7)) (dr (ff (jd rfl pw7 dZ (oi rfl)) (jd rfl pw7 (ip rfl) dZ)) oj))
  ·refine i_tup (ak (aO (ai rfl (i_c {y,_,rfl,rfl,by show _+1<=_;exact GP (by decide) y1 y2,?_}))));refine ak (i_c (aB {by simp[sizeLine],λt ht=>?_}));exact q _ _ (ag ht) {t,_,_,rfl,ae,QB _,by rw[ot];show _+1<=_;exact GO y1 y2}
  refine i_tup (ak (i_c (ak (i_c (aB {by simp[sizeLine],λt ht=>?_})))));exact q _ _ (ag ht) {t,_,_,rfl,ae,QB _,QB _}
 obtain⟨us,hLa,lu,hua⟩:=lw7.same (S8.trans (ag hL8));obtain⟨ws,hLb,lw,hwa⟩:=qx hL8 l8 h8;refine gL hLa hLb ⇑(GN (by decide) lu lw) λr2 hr=>au ?_;have lw9:LPp (upd (upd H8 L8 (.lst vs8)) r2 (.lst (us++ws))) r2 9:=qx hr (by rw[Qk];exact GM lu lw) λv hv=>(Qq.mp hv).elim (hua v) (hwa v);have S9:ao H7 (upd (upd H8 L8 (.lst vs8)) r2 (.lst (us++ws))):=(S8.trans (ag hL8)).trans (ag hr);have r20:H r2=none:=ao.free (S03.trans (S5.trans (S7.trans (S8.trans (ag hL8))))) hr;generalize upd (upd H8 L8 (.lst vs8)) r2 (.lst (us++ws))=H9 at *;clear h8 hL8 hLa hLb hua hwa hr lw7;have pw9:=pw7.same S9;obtain⟨us9,hr9,_⟩:=id lw9;have S09:=S03.trans (S5.trans (S7.trans S9));have slS:∀lo hi,(Txt.slice y lo hi).length<=11:=λlo hi=>QY (XR y _ _) ⇑(GK y2);kt_k;refine s_drop (i_bm (ai rfl {i_tyL hr9,ak ((?mB:MkP H9 _ 129 _) H9 _ (ao.refl _) λp10 H10 S10 pw10=>aB ?_)}))
 case mB =>
  refine oo (ff (kI rfl pw9) (iO λH Q S q=>?_));refine i_tup (ak (aO (aO (i_sl (ai rfl (i_nopart (i_part (ai rfl {_,rfl,y,rfl,⇑(A0 (by decide) y1 y2),?_}))))))));have l1:=slS none (-spot);have l2:=slS (-(spot+1)) none;refine i_c {_,_,rfl,rfl,by show _+1<=_;exact GJ (by decide) l1,?_};have l3:(Txt.slice y none (-spot)++("2" : Str)).length<=12:=by rw[ot];show _+1<=_;exact GI l1
  refine i_sl (ai rfl (i_part (aO (ai rfl (i_c (b_ {_,rfl,i_nopart {y,rfl,⇑(A0 (by decide) y1 y2),{_,_,rfl,rfl,⇑(GH (by decide) l2 l3),?_} } }))))));refine ak (aO (ai rfl (i_c (cZ (by decide) (aB {by simp[sizeLine],λt ht=>?_})))));exact q _ _ (ag ht) {t,_,_,rfl,ae,QB _,by rw[ot];exact GG l2 l3}
 have lw10:=lw9.same S10;have ne:=lw10.ne pw10;obtain⟨vs10,h10,lv10,hv10⟩:=lw10;refine d9 h10 ⇑(GF (by decide) lv10) ?_;obtain⟨m,em⟩:∃m:Nat,way=(m:Int):={way.toNat,⋯};subst em;obtain⟨u,eu⟩:∃u,(vs10++[V.ref p10])[m]?=some u:={_,Qc (by rw[Qk,lv10];simp;omega)};refine bH (aO (ai rfl (ai rfl (bh (SqL.of ae) (ck eu) ?_))));have S0:ao H (upd H10 r2 (.lst (vs10++[V.ref p10]))):=aQ (S09.trans S10) r20;rcases Qq.mp (Qg eu) with hm|hm
 ·obtain⟨p',e,pw'⟩:=hv10 u hm;subst e;exact k _ _ S0 (pw'.upd h10 ((lw9.same S10).ne pw'))
 rw[Qu]at hm;subst hm;obtain⟨us,g1,g2,g3,g4⟩:=pw10.upd (o:=.lst (vs10++[V.ref p10])) h10 ne;exact k _ _ S0 {us,g1,g2,⇑(GE g2 g3),g4}
end
theorem mM:∀(qs acc:J9),(acc.map (·.1)).Nodup->∃qs':J9,bB (aX acc) (cH (qs.map λq=>(q.1,V.int q.2)))=aX qs'/\(qs'.map (·.1)).Nodup/\qs'.length<=acc.length+qs.length
 | [],acc,h=>{acc,rfl,h,Nat.le_add_right _ _}
 | q::qs,acc,h=>by
  have e:bB (aX acc) (cH ((q::qs).map λq=>(q.1,V.int q.2)))=bB (ca (aX acc) (Sum.inr q.1) (.int q.2)) (cH (qs.map λq=>(q.1,V.int q.2))):=rfl
  obtain⟨acc',e2,nd,ln⟩:∃acc':J9,ca (aX acc) (Sum.inr q.1) (.int q.2)=aX acc'/\(acc'.map (·.1)).Nodup/\acc'.length<=acc.length+1:=by
   by_cases c:q.1∈acc.map (·.1)
   ·refine{acc.map λp=>if p.1=q.1 then (p.1,q.2) else p,?_,?_,by rw[Qa];exact Hu}
    ·unfold ca;rw[cQ,jE,QS c,QF rfl];unfold aX;rw[QR,QR];refine List.map_congr_left λp _=>?_;show (if (Sum.inr p.1:Key)=Sum.inr q.1 then ((Sum.inr p.1:Key),V.int q.2) else (Sum.inr p.1,V.int p.2))=((Sum.inr (if p.1=q.1 then (p.1,q.2) else p).1:Key),V.int (if p.1=q.1 then (p.1,q.2) else p).2);by_cases e:p.1=q.1
     ·rw[QF e,QF (by rw[e])]
     rw[QE e,QE λz=>e (Sum.inr.inj z)]
    rw[QR];have:((λp:Str × Int=>p.1)∘λp=>if p.1=q.1 then (p.1,q.2) else p)=λp:Str × Int=>p.1:=by funext p;show (if p.1=q.1 then (p.1,q.2) else p).1=p.1;split <;> rfl
    rw[this];exact h
   refine{acc++[(q.1,q.2)],?_,?_,by simp}
   ·rw[dY _ (by have:=jE (qs:=acc) (x:=q.1);rw[QC c]at this;exact Option.not_isSome_iff_eq_none.mp (by rw[this];decide))];unfold aX;rw[Qp];rfl
   rw[Qp,Xw];exact{h,by simp,λa ha b hb e=>by simp at hb;rw[e,hb]at ha;exact c ha}
  obtain⟨qs',e3,nd',l'⟩:=mM qs acc' nd;exact{qs',by rw[e,e2,e3],nd',by rw[QT];exact Ht ln l'}
def pC:Sp:=λvs H Q _=>∃(a li lg:Addr) (ins:List Str) (gvs:List V) (gs:J8) (z r:Str) (p:Addr) (bs:J7) (qs:J9),vs=[.ref a,.str z,.str r,.ref p]/\NAt H a li lg ins gvs gs/\NetOk ins gs/\StOk (aq ins gs).length z/\gj H p bs qs/\qs.length<4000/\(∀q∈qs,q.1.length<=1000)/\∀H',ao H H'->Q (.bl (shB ins gs z r qs)) H'
section
theorem nG:FnScope ["net", "standing", "rest", "paper", "told", "here", "some", "name", "there"] ["net", "standing", "rest", "paper"] (aC (top 46)):=by fin2
theorem rE {f:Addr} {fd:FuncData} (Fu:Fun K "_law_shows" "_law_shows" (top 46) f fd) (T:Txt K mg TT) (f_law_asked:Fn P w K mg base "_law_asked" ["net", "standing"] 11 eY):FnOk P w K mg base CX0 12 f fd ["net", "standing", "rest", "paper"] pC:=by
 have S:=nG;w_up;obtain⟨a,li,lg,ins,gvs,gs,z,r,p,bs,qs,rfl,NA,ok,st,pp,few,len,k⟩:=h;have hu:=dC hr;refine'{?_,?bb,?_}
 case bb =>
  walk_at "b";exact aF 4 S.nd (eF rfl (by rfl) T.n_dict (aa (pv 3) af aj));exact(PW.pt (fj (aL (og hr.units) (qe (tgs:=["here", "number"]) (cap:=[]) rfl ⟨rfl,rfl,rfl,rfl,rfl,rfl⟩ (bw (pv 3)) (λ_ _ _ _=>(n_ (K:=K) (n:=2) rfl rfl (bE (dh (i:=0) (show List.Nodup [("here" : Str),("number" : Str)] by decide +kernel) rfl (by z_go)) (bE (dh (i:=1) (show List.Nodup [("here" : Str),("number" : Str)] by decide +kernel) rfl (by z_go)) ee)))) (λ_ _ _ _=>fY) (λ_ _ _ _=>(pv 0))) (aE (fL rfl) (by rfl) T.n_sorted Xi (aa (pv 4) af aj)) (aN _)) (fj (gX (dJ hu (pv 1) (pv 4))) (eP (gX (dJ hu (pv 2) (pv 4)))))));exact(aJ cW);refine' n8 ?_;rotate_left 1;walk_at "f";exact(eR (pv 4));exact(bR 5 S.nd);walk_at "p";exact(PW.pt (fj (aL jb (aE dA (by rfl) T.n_len QL (aa (pv 5) af aj)) (aE dA (by rfl) T.n_len QL (aa (pv 1) af aj)) (aN _)) (fj (aL jb (cR PySem.F.plainAttrs_str PySem.F.slot_str_strip PySem.F.type_str_strip wM (pv 5) (aa aP af aK)) aP (aN _)) (eP (aL jc (bC hu (pv 4) (pv 5)) ad (aN _))))));exact(aJ cW);exact aF 6 S.nd (a8 f_law_asked hr (aa (pv 0) (aa (pv 5) af aj) aj));exact(aL jb (di (kB hr.units) (pv 6) (aZ af) (aN _)) (di cE (pv 5) (pv 2) (aN _)) (aN _));exact(aJ cW);walk_at "f";exact(bw (pv 6));exact(gY rfl (bE (bR 7 S.nd) (bE (bR 8 S.nd) ee)));walk_at "p";exact(PW.pt (fj (gX (dJ hu (pv 8) (pv 4))) (eP (aL wf (bC hu (pv 4) (pv 8)) (bC hu (pv 4) (pv 5)) (aN _)))));exact(aJ cW);exact(aJ cW)
 x_go;obtain⟨hp,lb,hb⟩:=id pp;have w11:(aq ins gs).length<=11:=by rw[bK];have:=ok.i4;have:=ok.g7;omega
 have zl:z.length=(aq ins gs).length:=st.len
 have kF:¬ShOk ins gs z r qs->∀{H'},ao H H'->Q (.bl false) H':=λno {H'} S=>by
  have:=k H' S;rwa [Xc.mpr λe=>no (xU e)]at this
 have kT:ShOk ins gs z r qs->∀{H'},ao H H'->Q (.bl true) H':=λyes {H'} S=>by
  have:=k H' S;rwa [yes.bool]at this
 clear k;kt_k;refine bj (iU (ak (ai rfl (aB {p,bs.map V.ref,_,rfl,SqL.of hp,by rw[Qa];exact Cd few lb,pp.prs,λN hN=>au ?_}))));obtain⟨qd,eqd,ndd,lqd⟩:=mM qs [] (by simp);rw[show ([]:List (Key × V))=aX [] from rfl,eqd];rw[show (aX []:List (Key × V))=[] from rfl]at eqd;ctx_has H N H1 S1 hN1 aI hN;kt_k;kt_k;kt_k;refine i_test (aO (bS (s_list (ai rfl {p,rfl,{_,SqL.of (S1 _ _ hp)},λL hL=>?_}))));refine bU (xs:=bs.map V.ref) (λm H3 ys=>ao H1 H3/\H3 L=-.lst ys/\ys=((qs.take m).map (·.1)).map V.str) {ag hL,ae,rfl} (λm H' ys pv=>{pv.2.1,SqL.of (pv.1 _ _ (S1 _ _ hp))}) (λm v H3 ys e pv=>?_) (λH3 ys pv=>?_)
 ·obtain⟨S3,hd,rfl⟩:=pv;rw[Qi]at e
  cases ex:bs[m]? with
  | none=>rw[ex]at e;cases e
  | some b =>
  rw[ex]at e;cases e;have hm:m<bs.length:=(Qe.mp ex).1;obtain⟨q,eq⟩:∃q,qs[m]?=some q:={_,Qc ⇑(wa lb hm)};refine{b,_,rfl,SqT.of ((S1.trans S3) _ _ (hb m b q ex eq)),rfl,?_};refine{_,_,rfl,au {_,_,rfl,au {rfl,by repeat' (first|exact trivial|refine{rfl,?_}),i_yes (ce ?_)} } };refine ai rfl (b9.mk hd (by rw[Qa];exact hm) (by rw[Qa,Qa,Qt];exact Hs few (by decide) lb hm) {aQ S3 hL,ae,?_});rw[QX,eq,XE,Qp,Qp];rfl
 obtain⟨S3,hd,rfl⟩:=pv;rw[Qa,lb,Qw (Qh _)]at hd;have S03:=S1.trans S3;have hN3:=S3 _ _ hN1;have src:BH K H3 N (qd.map (·.1)):=.inr {_,.inl hN3,dN qd};refine c7 (ak (ai rfl (aB {N,_,rfl,src,by rw[Qa];simp at lqd;exact Hr few lb lqd,λp4 ss hp4 pm so=>?_})));ctx_has H3 p4 H4 S4 q4 aI hp4;have S04:=S03.trans S4;refine w4 (xs:=qs.map (·.1)) (ys:=ss) (SqL.of (S4 _ _ hd)) (SqL.of q4) {_,rfl,?_};rw[QF rfl];by_cases c0:qs.map (·.1)=ss
 case neg =>
  refine ifT (by rw[QC c0];rfl) (ifT rfl ?_);refine bH (i_c (kF (λsh=>c0 ?_) S04));have e2:=eqd.symm.trans (kQ sh.nd)
  have e3:qd.map (·.1)=qs.map (·.1):=by
   have:=congrArg (List.map (·.1)) e2;rw[dN,dN]at this;exact iR this
  rw[e3]at pm;exact(jW so sh.so pm).symm
 refine ifF (by rw[QS c0];rfl) ?_;have nd:(qs.map (·.1)).Nodup:=by rw[c0];exact pm.nodup_iff.mpr ndd
 have so':(qs.map (·.1)).Pairwise leT:=by rw[c0];exact so
 have e2:=eqd.symm.trans (kQ nd);rw[e2]at hN3;have hN4:=S4 _ _ hN3;have inn:∀{x:Str},(!(bi (aX qs) (Sum.inr x)).isSome)=!decide (x∈qs.map (·.1)):=λ{x}=>by rw[jE]
 kt_k;refine i_test (eT (ai rfl (ai rfl {N,_,rfl,.inl {_,Sum.inr z,.inl hN4,rfl,rfl},_,rfl,?_})));rw[inn];by_cases cz:z∈qs.map (·.1)
 case neg =>
  refine ifT (by rw[QC cz];rfl) (ifT rfl ?_);exact bH (i_c (kF (λsh=>cz sh.zin) S04))
 refine ifF (by rw[QS cz];rfl) ?_;refine i_test (eT (ai rfl (ai rfl {N,_,rfl,.inl {_,Sum.inr r,.inl hN4,rfl,rfl},_,rfl,?_})));rw[inn];by_cases cr:r∈qs.map (·.1)
 case neg =>
  refine ifT (by rw[QC cr];rfl) ?_;exact bH (i_c (kF (λsh=>cr sh.rin) S04))
 refine ifF (by rw[QS cr];rfl) ?_;kt_k;clear hd q4 hp4 hN hN1 S3 S4 hN3 src;have lkq:(aX qs).length=qs.length:=by unfold aX;rw[Qa]
 kt_k;refine sV (.inl hN4) trivial λo=>?_;have hN5:upd H4 N (.frz o (.dK (aX qs))) N=-.frz o (.dK (aX qs)):=ae;have bk:∀{H':Hp},ao (upd H4 N (.frz o (.dK (aX qs)))) H'->ao H4 (back H4 N H'):=λS=>dQ (.inl hN4) S;have NA5:NAt (upd H4 N (.frz o (.dK (aX qs)))) a li lg ins gvs gs:=NA.mono (λb xs e=>by rw[am (λq=>by rw[q]at e;rw[S04 _ _ e]at hN4;cases hN4)];exact S04 _ _ e) (λb xs e=>by rw[am (λq=>by rw[q]at e;rw[S04 _ _ e]at hN4;cases hN4)];exact S04 _ _ e);generalize upd H4 N (.frz o (.dK (aX qs)))=H5 at *;have out:¬ShOk ins gs z r qs->∀{H'},ao H5 H'->H' N=-.frz o (.dK (aX qs))/\Q (.bl false) (back H4 N H'):=λno {H'} S=>{S _ _ hN5,kF no (S04.trans (bk S))};refine s_for (fE (ai rfl {N,o,_,rfl,hN5,?_}));let I44:IvF:=λi σ' H'=>(∃x5 x6 x7 x8,σ'=[-.ref a,-.str z,-.str r,-.ref p,-.ref N,x5,x6,x7,x8])/\ao H5 H'/\∀i'<i,∀q,qs[i']?=-q->StOk (aq ins gs).length q.1/\0<=q.2/\(az ins gs q.1=[]↔q.1=r)/\∀u∈az ins gs q.1,∃n,(u.2,n)∈qs/\n<q.2;refine iw I44 {⟨_,_,_,_,rfl⟩,ao.refl _,λi' h=>absurd h (Nat.not_lt_zero _)} (λi σ' H' _ pv=>pv.2.1 _ _ hN5) (λi k' v σ' H' e pv=>?_) (λσ' H' pv=>?_)
 ·obtain⟨⟨x5,x6,x7,x8,rfl⟩,Sm,old⟩:=pv;unfold aX at e;rw[Qi]at e
  cases eq:qs[i]? with
  | none=>rw[eq]at e;cases e
  | some q =>
  rw[eq]at e;cases e;have hq:=Qg eq;have lq:=len q hq;have get:∀{G:Hp} {x:Str} {n:Int},ao H' G->(x,n)∈qs->cO G N (.str x) (-.int n):=λ{G x n} S h=>.inl {_,Sum.inr x,.inr {o,(Sm.trans S) _ _ hN5},rfl,(fu nd h).symm};refine au ?_;kt_k;kt_k;kt_k;refine i_test (aO (c7 (ak (ai rfl (aB {q.1,rfl,⇑(Hq (by decide) lq),c7 (ak (ai rfl (aB {z,rfl,⇑(Ho (by decide) w11 zl),i_ne rfl {_,rfl,?_} })))})))));by_cases c1:q.1.length=z.length
  case neg =>
   refine ifT (by rw[QC (λe=>c1 (by injection e with e;omega))];rfl) (ifT rfl ?_);exact bH (i_c (out (λsh=>c1 (((sh.st q hq).len).trans zl.symm)) Sm))
  refine ifF (by rw[c1];simp) ?_;kt_k;refine i_test (aO (i_bm (ai rfl {F3,ak (i_c (aB {q.1,_,rfl,rfl,⇑(Hl (by decide) w11 zl c1),i_c (i_ne rfl {_,rfl,?_})}))})));by_cases c2:gS "01" q.1=Str.empty
  case neg =>
   have e0:("" : Str)=Str.empty:=by decide +kernel
   refine ifT (by rw[e0,QC (λe=>c2 (V.str.inj e))];rfl) (ifT rfl ?_);exact bH (i_c (out (λsh=>c2 (xS (sh.st q hq))) Sm))
  refine ifF (by rw[c2];decide +kernel) ?_
  have stq:StOk (aq ins gs).length q.1:={c1.trans zl,λc hc=>by
   have:=mx.mp c2 c hc
   have hh:∀c,(("01" : Str).cps.contains c)=true->c=48\/c=49:=λc h=>by
    have h':c∈("01" : Str).cps.toList:=by simpa using h
    exact(by decide +kernel:∀c∈("01" : Str).cps.toList,c=48\/c=49) c h'
   exact hh c this}
  refine i_test (aO (i_dget (ai rfl (ai rfl {N,_,rfl,get (ao.refl _) (show (q.1,q.2)∈qs from hq),i_c (b_ {_,rfl,?_})}))));by_cases c3:0<=q.2
  case neg =>
   refine ifT (QS ⋯) ?_;exact bH (i_c (out (λsh=>c3 (sh.pos q hq)) Sm))
  refine ifF (QC ⋯) ?_;kt_k;kt_k;refine bj (bP (ak (ai rfl (ak (ai rfl (aB {a,li,lg,ins,gvs,gs,q.1,rfl,NA5.same Sm,ok,stq,λl vs H6 S6 hl0 hl6 pr6=>au ?_}))))));have lv:=aU pr6;kt_k;kt_k;refine i_test (aO (aO (ai rfl (r_eqNil hl6 λH7 S7=>aO (ai rfl (ai rfl (i_eq rfl (i_ne rfl {_,rfl,?_}))))))));have S67:=S6.trans S7
  have n0:(vs.length==0)=decide (az ins gs q.1=[]):=by
   rw[Bool.eq_iff_iff,beq_iff_eq,XA,lv,Xb]
  by_cases c4:az ins gs q.1=[]↔q.1=r
  case neg =>
   refine ifT ?_ ?_
   ·show (!decide (V.bl (vs.length==0)=V.bl (decide (V.str q.1=V.str r))))=true;rw[n0];by_cases d1:az ins gs q.1=[] <;> by_cases d2:q.1=r
    ·exact absurd {λ_=>d2,λ_=>d1} c4
    ·rw[QS d1,QC (λe=>d2 (V.str.inj e))];rfl
    ·rw[QC d1,QS (show V.str q.1=V.str r by rw[d2])];rfl
    exact absurd {λe=>absurd e d1,λe=>absurd e d2} c4
   exact bH (i_c (out (λsh=>c4 (sh.rest q hq)) (Sm.trans S67)))
  refine ifF ?_ ?_
  ·show (!decide (V.bl (vs.length==0)=V.bl (decide (V.str q.1=V.str r))))=false;rw[n0];by_cases d2:q.1=r
   ·rw[QS (c4.mpr d2),QS (show V.str q.1=V.str r by rw[d2])];rfl
   rw[QC (λe=>d2 (c4.mp e)),QC (λe=>d2 (V.str.inj e))];rfl
  kt_k;have hl7:=S7 _ _ hl6;refine s_for (s_list (ai rfl {l,rfl,{_,SqL.of hl7},?_}));let I45:IvF:=λj σ' G=>(∃x7 x8,σ'=[-.ref a,-.str z,-.str r,-.ref p,-.ref N,-.str q.1,-.ref l,x7,x8])/\ao H7 G/\∀j'<j,∀u,(az ins gs q.1)[j']?=-u->∃n,(u.2,n)∈qs/\n<q.2;refine dw (xs:=vs) I45 {⟨_,_,rfl⟩,ao.refl _,λj' h=>absurd h (Nat.not_lt_zero _)} (λj σ' G _ pv=>SqL.of (pv.2.1 _ _ hl7)) (λj v σ' G hv pv=>?_) (λσ' G pv=>?_)
  ·obtain⟨⟨x7,x8,rfl⟩,SG,fal⟩:=pv;obtain⟨u,hu',b,rfl,hb6⟩:=dL pr6 j v hv;have hum:=Qg hu';have S6G:=S67.trans SG;refine{b,_,rfl,SqT.of ((S7.trans SG) _ _ hb6),rfl,?_};refine{_,_,rfl,au {_,_,rfl,au {rfl,?_} } };kt_k;kt_k;refine i_test (eT (ai rfl (ai rfl {N,_,rfl,.inl {_,Sum.inr u.2,.inr {o,(Sm.trans S6G) _ _ hN5},rfl,rfl},_,rfl,?_})));rw[inn];by_cases c5:u.2∈qs.map (·.1)
   case neg =>
    refine ifT (by rw[QC c5];rfl) (ifT rfl ?_);refine bH (i_c (out (λsh=>c5 ?_) (Sm.trans S6G)));obtain⟨n,hn,_⟩:=sh.fall q hq u hum;exact Qj.mpr ⟨_,hn,rfl⟩
   refine ifF (by rw[QS c5];rfl) ?_;obtain⟨n,hn,_⟩:=kR nd c5;refine i_test (aO (i_dget (ai rfl (ai rfl {N,_,rfl,get S6G hn,i_dget (ai rfl (ai rfl {N,_,rfl,get S6G (show (q.1,q.2)∈qs from hq),b_ {_,rfl,?_} }))}))));by_cases c6:n<q.2
   case neg =>
    refine ifT (QS ⋯) ?_;refine bH (i_c (out (λsh=>c6 ?_) (Sm.trans S6G)));obtain⟨n',hn',l'⟩:=sh.fall q hq u hum;have h1:bi (aX qs) (Sum.inr u.2)=-.int n':=fu nd hn';have h2:bi (aX qs) (Sum.inr u.2)=-.int n:=fu nd hn;rw[h1]at h2;cases h2;exact l'
   refine ifF (QC ⋯) ?_;kt_k;refine{⟨_,_,rfl⟩,SG,λj' hj' w hw=>?_};by_cases cj:j'<j
   ·exact fal j' cj w hw
   have:j'=j:=by exact yh hj' cj
   subst this;rw[hu']at hw;cases hw;exact⟨n,hn,c6⟩
  obtain⟨⟨x7,x8,rfl⟩,SG,fal⟩:=pv;refine{⟨_,_,_,_,rfl⟩,Sm.trans (S67.trans SG),λi' hi' h eh=>?_};by_cases ci:i'<i
  ·exact old i' ci h eh
  have:i'=i:=by exact yh hi' ci
  subst this;rw[eq]at eh;cases eh;refine{stq,c3,c4,λu hu'=>?_};obtain⟨j,hj,ej⟩:=Qo.mp hu';exact fal j (by rw[lv];exact hj) u (by rw[Qc hj,ej])
 obtain⟨⟨x5,x6,x7,x8,rfl⟩,Sm,old⟩:=pv;refine{Sm _ _ hN5,?_}
 try dsimp only
 have each:∀q∈qs,StOk (aq ins gs).length q.1/\0<=q.2/\(az ins gs q.1=[]↔q.1=r)/\∀u∈az ins gs q.1,∃n,(u.2,n)∈qs/\n<q.2:=λq hq=>by
  obtain⟨i,hi,ei⟩:=Qo.mp hq;exact old i (by rw[lkq];exact hi) q (by rw[Qc hi,ei])
 exact bH (i_c (kT {nd,so',cz,cr,λq hq=>(each q hq).1,λq hq=>(each q hq).2.1,λq hq=>(each q hq).2.2.1,λq hq=>(each q hq).2.2.2} (S04.trans (bk Sm))))
end
theorem sL (h:∀u∈us,∃x:Str,u=.str x):∃ws:List Str,us=ws.map V.str:=by
 induction us with
 | nil=>exact{[],rfl}
 | cons u us ih =>
 obtain⟨ws,e⟩:=ih λu hu=>h u (by simp[hu]);obtain⟨x,ex⟩:=h u (by simp);exact{x::ws,by rw[e,ex];rfl}
section
theorem AE:FnScope ["script", "d", "net", "handed_net", "standing", "ways", "still", "odd", "papers", "k", "bent", "paper", "rest", "handed", "found"] ["script"] (aC (top 50)):=by fin2
theorem wz {TL:Addr} {f:Addr} {fd:FuncData} (Fu:Fun K "law" "law" (top 50) f fd) (T:Txt K mg TT) (f_law_draws:Fn P w K mg base "_law_draws" ["script", "many"] 1 (sS K)) (f_law_net:Fn P w K mg base "_law_net" ["d", "spot"] 12 vK) (f_law_copy:Fn P w K mg base "_law_copy" ["net"] 1 vO) (f_law_standing:Fn P w K mg base "_law_standing" ["x", "net"] 1 jQ)
  (f_law_ways:Fn P w K mg base "_law_ways" ["net", "standing"] 12 qZ) (f_law_papers:Fn P w K mg base "_law_papers" ["net", "standing", "d", "spot"] 17 (pE TL)) (f_law_bent:Fn P w K mg base "_law_bent" ["paper", "x", "net"] 2 vP) (f_rest_shows:Fn P w K mg base "rest_shows" ["net", "standing", "rest", "paper"] 13 pD) (f_law_shows:Fn P w K mg base "_law_shows" ["net", "standing", "rest", "paper"] 12 pC):FnOk P w K mg base CX0 18 f fd ["script"] (sQ K TL):=by
 have S:=AE;w_up;obtain⟨sc,cells,rfl,hS,hlen,tb,k⟩:=h;have hu:=dC hr;refine'{?_,?bb,?_}
 case bb =>
  walk_at "b";exact aF 1 S.nd (a8 f_law_draws hr (aa (pv 0) (aa ad af aK) aj));exact aF 2 S.nd (a8 f_law_net hr (aa (pv 1) (aa ad af aK) aj));exact aF 3 S.nd (a8 f_law_copy hr (aa (pv 2) af aj));exact aF 4 S.nd (a8 f_law_standing hr (aa (aD aH (pv 1) ad) (aa (pv 2) af aj)));exact aF 5 S.nd (a8 f_law_ways hr (aa (pv 2) (aa (pv 4) af aj) aj));exact(zt (j:=6) S.nd rfl (by z_go) (tgs:=["one"]) (cap:=[("ways", 5)]) rfl ⟨rfl,rfl,rfl,rfl,rfl,rfl⟩ (bw (aE (fL rfl) (by rfl) T.n_sorted Xi (aa (pv 5) af aj))) (λ_ _ _ _=>(dh (i:=0) (show List.Nodup [("one" : Str),("ways" : Str)] by decide +kernel) rfl (by z_go))) (λ_ _ _ _=>(pZ (aL (yi (K:=K) rfl hr.units) (bC hu (pv 1) (pv 0)) (aZ af) (aN _)))) (λ_ _ _ _=>(pv 0)));exact aF 7 S.nd (aD aH (aZ (aa (a8 f_law_standing hr (aa (aD aH (pv 1) ad) (aa (pv 2) af aj) se_sub)) (aa aP (aa aP (aa (ap bO (pv 4) aP) (aa (pv 4) af aj) se_bin) aK) aK) se_call)) (ap aS (aD aH (pv 1) ad) ad));exact aF 8 S.nd (a8 f_law_papers hr (aa (pv 2) (aa (pv 4) (aa (pv 1) (aa ad af aK) aj) aj) aj));walk_at "f";exact(cA (by rfl) T.n_range (aa (aE aM (by rfl) T.n_len QL (aa (pv 8) af aj)) af se_call));exact(bR 9 S.nd);walk_at "p";exact aF 10 S.nd (aZ (aa (a8 f_law_bent hr (aa (aD aH (pv 8) (pv 9)) (aa (aD aH (pv 1) (ap aR ad (ap dq ad (pv 9)))) (aa (pv 2) af aj)))) (aa (a8 f_law_bent hr (aa (aD aH (pv 8) (pv 9)) (aa (aD aH (pv 1) (ap aR ad (ap dq ad (pv 9)))) (aa (pv 2) af aj)))) af se_call) se_call));walk_at "f";exact(bw (ap cu (aZ (aa (aD aH (pv 8) (pv 9)) af)) (pv 10)));exact(bR 11 S.nd);walk_at "p";walk_at "f";exact(bw (a9 cq (ap cu (pv 6) (aZ (aa (pv 7) af aj))) bu (bt (ap aR ad (ap aS (aD aH (pv 1) (ap aR ad (pv 9))) ad)))));exact(bR 12 S.nd);walk_at "p";exact aF 13 S.nd (dI dy (by rfl) T.n_list XB (aa (pv 11) af aj));exact aF 14 S.nd (a8 f_rest_shows hr (aa (pv 3) (aa (pv 4) (aa (pv 12) (aa (pv 13) af aj) aj) aj) aj));exact(PW.pt (fj (fe (eQ (aE cJ (by rfl) T.n_isinstance Xp (aa (pv 14) (aa (fF (v:=.ty "bool") (by rfl) T.n_bool PyProof.Rows.boot_bool rfl) af aj) aj)))) (eP (aL jb (pv 14) (a8 f_law_shows hr (aa (pv 2) (aa (pv 4) (aa (pv 12) (aa (pv 11) af aj) aj) aj) aj)) (aN _)))));exact(aJ cW);exact(PW.pt (fj (aL (og hr.units) (pv 13) (pv 11) (aN _)) (eP (aL (A3 hr.units) (pv 3) (pv 2) (aN _)))));exact(aJ cW);exact(aJ cW)
 x_go;lk;refine{sc,cells,rfl,hS,hlen,λd ds H1 S1 nd hd dok=>?_};lk;refine{d,ds,0,rfl,hd,dok,⋯,⋯,λa li lg ins gvs gs H2 S2 NA0 ok=>?_};have hd2:=S2 _ _ hd;lk;refine{a,li,lg,ins,gvs,gs,rfl,NA0,λa' li' lg' H2' S2' _ _ _ NB0=>?_};have NA:=NA0.same S2';have hd2':=S2' _ _ hd2;obtain⟨y1,y10,_,e1⟩:=cM dok (i:=120) ⋯ ⋯;lk;refine bh (SqL.of hd2') e1 ?_;lk;refine{y1,a,li,lg,ins,gvs,gs,rfl,NA,ok,λz H4 st S4=>?_};have hd4:=S4 _ _ hd2';have NA4:=NA.same S4;have NB4:=NB0.same S4;have tb4:=dU tb (S1.trans (S2.trans (S2'.trans S4)));have zl:z.length=(aq ins gs).length:=st.len;have w11:(aq ins gs).length<=11:=by rw[bK];have:=ok.i4;have:=ok.g7;omega
 kt_k;kt_k;refine bj (bP (ak (ai rfl (ak (ai rfl (aB ?_))))));refine{a,li,lg,ins,gvs,gs,z,rfl,NA4,ok,st,λF ys xs ls H5 S5 hF0 met pm wd=>au ?_};have few:=met.few7 ok;obtain⟨hF,lls,hls⟩:=id wd;have lys:=pm.length_eq;have ndy:=pm.nodup_iff.mpr met.nd;have NA5:=NA4.same S5;have hd5:=S5 _ _ hd4;have tb5:=dU tb4 S5;obtain⟨y2,y20,_,e2⟩:=cM dok (i:=121) ⋯ ⋯;obtain⟨y3,y30,_,e3⟩:=cM dok (i:=122) ⋯ ⋯;kt_k;refine bj (bS (s_list (c7 (ak (ai rfl (aB {F,ys,rfl,r9 (.inl hF) lls,⇑(Dm few lys),λp ss hp pm2 so=>?_}))))));ctx_has H5 p H6 S6 q6 aI hp;have lss:=pm2.length_eq;refine{p,rfl,{_,SqL.of q6},λL hL=>?_};refine k9 (xs:=ss.map V.str) (λm H' us=>ao H6 H'/\H' L=-.lst us/\us.length<=m/\∀u∈us,∃x:Str,u=.str x) {ag hL,ae,Qh _,λu h=>nomatch h} (λm H' ys p=>{p.2.1,SqL.of (p.1 _ _ q6)}) (λm v H' us e p=>?_) (λH7 us p7=>?_)
 ·obtain⟨Sm,hd',lu,all⟩:=p;rw[Qi]at e
  cases ex:ss[m]? with
  | none=>rw[ex]at e;cases e
  | some x =>
  rw[ex]at e;cases e;have hm:m<ss.length:=(Qe.mp ex).1;obtain⟨i,hi,exi⟩:=Qo.mp (pm2.mem_iff.mp (Qg ex));have f1:ys[i]?=-x:=by rw[Qc hi,exi]
  obtain⟨b,f2⟩:∃b,ls[i]?=some b:={_,Qc ⇑(wc lls lss hi)};have S0m:=S6.trans Sm;refine au {by repeat' (first|exact trivial|refine{rfl,?_}),?_};refine i_test (aO (i_dget (ai rfl (ai rfl {F,_,rfl,eA (.inl (S0m _ _ hF)) ndy f1 f2,r_eqNil (S0m _ _ (hls i x b f1 f2)) λH8 S8=>{_,rfl,?_} }))));generalize (((nxS ins gs x).map V.str).length==0)=c
  cases c with
  | true =>
   refine ifT rfl (ai rfl (b9.mk (S8 _ _ hd') (by rw[Qa];exact hm) ⋯ {aQ (Sm.trans S8) hL,ae,by rw[Qk];exact Nat.succ_le_succ lu,λu hu'=>?_}));rcases Qq.mp hu' with h|h
   ·exact all u h
   rw[Qu]at h;exact⟨x,h⟩
  | false =>
  refine ifF rfl ?_;rw[Qa];exact{ss.length-(m+1),⇑(zQ hm),rfl,⇑(zP hm),Sm.trans S8,S8 _ _ hd',⇑(A1 lu),all}
 obtain⟨S7,hd7,lu,all⟩:=p7;rw[Qa]at lu;obtain⟨us',rfl⟩:=sL all;refine au ?_;have S57:=S6.trans S7;have hd57:=S57 _ _ hd5;have NA7:=NA5.same S57;kt_k;refine bj (aO (cw (ak (bP (ak (aO (ai rfl (i_c (bh (SqL.of hd57) e2 (ak (ai rfl (aB {y2,a,li,lg,ins,gvs,gs,rfl,NA7,ok,λz2 H8 st2 S8=>?_}))))))))))));refine ak (i_c (ak (i_c (ak (aO (ai rfl (i_c {z,_,rfl,rfl,by show _+1<=_;exact Dl (by decide) zl w11,ak (ai rfl (aB {by simp[sizeLine],λL9 hL9=>?_}))})))))));ctx_has H8 L9 H9 S9 q9 aI hL9;have S79:=S8.trans S9
 obtain⟨od,eo⟩:∃od:Str,atI [V.str z2,.str "", .str "rest", .str (z ++ "0"),.str z] (y3 % 5)=some (.str od):=by
  have:y3 % 5=0\/y3 % 5=1\/y3 % 5=2\/y3 % 5=3\/y3 % 5=4:=by omega
  rcases this with e|e|e|e|e <;> rw[e]
  ·exact⟨_,rfl⟩
  ·exact⟨_,rfl⟩
  ·exact⟨_,rfl⟩
  ·exact⟨_,rfl⟩
  exact⟨_,rfl⟩
 refine aO (aO (ai rfl (i_c (bh (SqL.of (S79 _ _ hd57)) e3 (i_c (cZ (by decide) (bh (SqL.of q9) eo (au ?_))))))));have S59:=S57.trans S79;have hd9:=S59 _ _ hd5;have NA9:=NA5.same S59;have NB9:=(NB4.same S5).same S59;have tb9:=dU tb5 S59;have hL9':=S79 _ _ hd7;clear q9;kt_k;refine bj (bP (ak (ai rfl (ak (ai rfl (ak (ai rfl (ak (i_c (aB ?_))))))))));refine{a,li,lg,ins,gvs,gs,z,d,ds,90,rfl,NA9,ok,st,hd9,dok,⋯,⋯,tb9,λG H13 t13 fn=>au ?_};have NA13:=NA9.mono (t13.lst tb9) (t13.tup tb9);have NB13:=NB9.mono (t13.lst tb9) (t13.tup tb9);have hd13:=t13.lst tb9 _ _ hd9;have q13:=t13.lst tb9 _ _ hL9';obtain⟨ps,hG,lps,pws⟩:=fn;kt_k;refine s_for (s_rng1 (ak (c7 (ak (ai rfl (aB {G,_,rfl,.inl (SqL.of hG),aB {_,rfl,by rw[Qa];omega,by rw[Qa];omega,?_} }))))));rw[Qa,Xq];let I46:IvF:=λi U H'=>(∃x9 x10 x11 x12 x13 x14,U=[-.ref sc,-.ref d,-.ref a,-.ref a',-.str z,-.ref F,-.ref L,-.str od,-.ref G,x9,x10,x11,x12,x13,x14])/\ao H13 H';refine dO (n:=ps.length) I46 {⟨_,_,_,_,_,_,rfl⟩,ao.refl _} (λi U H' hi pv=>?_) (λU H' pv=>?_);rotate_left
 ·obtain⟨⟨x9,x10,x11,x12,x13,x14,rfl⟩,SH⟩:=pv
  try dsimp only
  lk;exact k _
 obtain⟨⟨x9,x10,x11,x12,x13,x14,rfl⟩,SH⟩:=pv;obtain⟨p0,ep⟩:∃p0,ps[i]?=some p0:={_,Qc hi};have pw0:=(pws p0 (Qg ep)).2.same SH;have NAH:=NA13.same SH;have hdH:=SH _ _ hd13;have hGH:=SH _ _ hG;obtain⟨c1,c10,c11,ec1⟩:=cM dok (i:=123+2*(0+(i:Int))) ⋯ ⋯;obtain⟨c2,c20,c21,ec2⟩:=cM dok (i:=124+2*(0+(i:Int))) ⋯ ⋯;obtain⟨c3,c30,c31,ec3⟩:=cM dok (i:=134+(0+(i:Int))) ⋯ ⋯;have eG:atI (ps.map V.ref) (0+(i:Int))=-.ref p0:=by rw[Int.zero_add];exact ck (by rw[Qi,ep];rfl)
 refine au ?_;kt_k;refine bj (cw (ak (bP (ak (aO (ai rfl (ai rfl (bh (SqL.of hGH) eG (ak (aO (ai rfl (aO (i_c (aO (i_c (ai rfl (cZ (.inl {by decide,by decide}) (b_ (bh (SqL.of hdH) ec1 (ak (ai rfl (aB ?_))))))))))))))))))))));refine{p0,c1,a,li,lg,ins,gvs,gs,rfl,c10,c11,pw0,NAH,ok,λb1 H14 S14 pw1=>?_};refine ak (bP (ak (aO (ai rfl (ai rfl (bh (SqL.of (S14 _ _ hGH)) eG (ak (aO (ai rfl (aO (i_c (aO (i_c (ai rfl (cZ (.inl {by decide,by decide}) (b_ (bh (SqL.of (S14 _ _ hdH)) ec2 (ak (ai rfl (aB ?_))))))))))))))))))));refine{p0,c2,a,li,lg,ins,gvs,gs,rfl,c20,c21,pw0.same S14,NAH.same S14,ok,λb2 H15 S15 pw2=>?_};refine aB {by simp[sizeLine],λB hB=>au ?_};ctx_has H15 B H16 S16 q16 aI hB;have SH16:=SH.trans (S14.trans (S15.trans S16));refine s_for (s_list (aO (cw (ak (aO (ai rfl (ai rfl (bh (SqL.of (SH16 _ _ hG)) eG (aB {by simp[sizeLine],λO hO=>?_})))))))));ctx_has H16 O H17 S17 q17 aI hO;refine ai rfl (gL q17 (S17 _ _ q16) (by simp[sizeLine]) λC hC=>?_);ctx_has H17 C H18 S18 q18 aI hC;have SH18:=SH16.trans (S17.trans S18)
 have pap:∀v∈[V.ref p0,V.ref b1,V.ref b2],∃b,v=.ref b/\PW H18 0 30 400 b:=λv hv=>by
  have up:∀{G G':Hp} {q:Addr} {n m:Nat},ao G G'->n<=m->PW G 0 30 n q->PW G' 0 30 m q:=λS l h=>by
   obtain⟨vs,h1,h2,h3,h4⟩:=h.same S;exact{vs,h1,h2,⇑(B8 l h3),h4}
  simp only[QP,List.not_mem_nil,or_false]at hv;rcases hv with e|e|e
  ·exact{p0,e,up (S14.trans (S15.trans (S16.trans (S17.trans S18)))) ⋯ pw0.zero}
  ·exact{b1,e,up (S15.trans (S16.trans (S17.trans S18))) (Qh _) pw1}
  exact{b2,e,up (S16.trans (S17.trans S18)) (Qh _) pw2}
 refine{C,rfl,{_,SqL.of q18},?_};let I47:IvF:=λj U G'=>(∃x11 x12 x13 x14,U=[-.ref sc,-.ref d,-.ref a,-.ref a',-.str z,-.ref F,-.ref L,-.str od,-.ref G,-.int (0+(i:Int)),-.ref B,x11,x12,x13,x14])/\ao H18 G';refine dw (xs:=[V.ref p0,V.ref b1,V.ref b2]) I47 {⟨_,_,_,_,rfl⟩,ao.refl _} (λj U G' _ pv=>SqL.of (pv.2 _ _ q18)) (λj v U G' hv pv=>?_) (λU G' pv=>?_);rotate_left
 ·obtain⟨⟨x11,x12,x13,x14,rfl⟩,SG⟩:=pv;exact{⟨_,_,_,_,_,_,rfl⟩,SH18.trans SG}
 obtain⟨⟨x11,x12,x13,x14,rfl⟩,SG⟩:=pv;obtain⟨b,rfl,pwb⟩:=pap v (Qg hv);obtain⟨bs,qs,pp,_,lq,qlen,_⟩:=(pwb.same SG).pap;have SHG:=SH18.trans SG;refine au ?_;refine s_for (s_list (i_sl (aO (ai rfl (cw (ak (ai rfl (aB {by simp[sizeLine],λO2 hO2=>?_}))))))));ctx_has G' O2 G1 T1 u1 aI hO2;refine gL ((SHG.trans T1) _ _ q13) u1 (by have:=lu;show (us'.map V.str).length+1<=_;omega) λO3 hO3=>?_;rw[show [V.str od]=[od].map V.str from rfl,<-Qp];ctx_has G1 O3 G2 T2 u2 aI hO3;have T12:=T1.trans T2;refine i_nopart (i_part (aO (i_c (aO (aO (ai rfl (aO (i_c (ai rfl (b_ (bh (SqL.of ((SHG.trans T12) _ _ hd13)) ec3 (i_c (cZ (by decide) (b_ {_,rfl,jg (SqL.of u2) λO4 hO4=>?_}))))))))))))));generalize hcut:fS ((us'++[od]).map V.str) none (-(2+c3 % 2))=cs
 have cm:∀v∈cs,∃x:Str,v=.str x:=λv hv=>by
  rw[<-hcut]at hv;obtain⟨x,_,e⟩:=Qj.mp (jH.1 v hv);exact⟨x,e.symm⟩
 clear hcut;obtain⟨ws,rfl⟩:=sL cm;ctx_has G2 O4 G3 T3 u3 aI hO4;have T13:=T12.trans T3;refine{O4,rfl,{_,SqL.of u3},?_};let I48:IvF:=λj U Gx=>(∃x12 x13 x14,U=[-.ref sc,-.ref d,-.ref a,-.ref a',-.str z,-.ref F,-.ref L,-.str od,-.ref G,-.int (0+(i:Int)),-.ref B,-.ref b,x12,x13,x14])/\ao G3 Gx;refine dw (xs:=ws.map V.str) I48 {⟨_,_,_,rfl⟩,ao.refl _} (λj U Gx _ pv=>SqL.of (pv.2 _ _ u3)) (λj2 v U Gx hv2 pv=>?_) (λU Gx pv=>?_);rotate_left
 ·obtain⟨⟨x12,x13,x14,rfl⟩,SG2⟩:=pv;exact{⟨_,_,_,_,rfl⟩,SG.trans (T13.trans SG2)}
 obtain⟨⟨x12,x13,x14,rfl⟩,SG2⟩:=pv;obtain⟨r,hr',rfl⟩:=Qj.mp (Qg hv2);have SGx:=T13.trans SG2;have ppx:=pp.same SGx;have S2':=SHG.trans SGx;obtain⟨hpx,lbx,hbx⟩:=id ppx;refine au ?_;kt_k;refine bj (c7 (ak (ai rfl (aB {b,_,rfl,.inl (SqL.of hpx),λhb hhb=>au ?_}))));ctx_has Gx hb Gy Ty uy aI hhb;have ppy:gj Gy hb bs qs:={uy,lbx,λi b q e1 e2=>Ty _ _ (hbx i b q e1 e2)};have S3y:=S2'.trans Ty;have few4:qs.length<4000:=by omega
 have qlen':∀q∈qs,q.1.length<=1000:=λq hq=>by have:=qlen q hq;exact Dj this
 kt_k;refine bj (bP (ak (ai rfl (ak (ai rfl (ak (ai rfl (ak (ai rfl (aB {a',li',lg',ins,gvs,gs,z,r,hb,bs,qs,rfl,NB13.same S3y,ok,st,ppy,few4,qlen',λG4 S4'=>au ?_}))))))))));have S4y:=S3y.trans S4';kt_k;kt_k;kt_k;refine i_not (i_tB (c7 (ak (ai rfl (ak (i_c (aB {_,_,_,_,rfl,TyOf.bl _,fq "bool", {_,rfl,du ?_} })))))));refine i_test (aO (ai rfl (bP (ak (ai rfl (ak (ai rfl (ak (ai rfl (ak (ai rfl (aB {a,li,lg,ins,gvs,gs,z,r,b,bs,qs,rfl,NA13.same S4y,ok,st,(ppx.same Ty).same S4',few4,qlen',λG5 S5'=>i_ne rfl {_,rfl,ifF (by simp) ?_} }))))))))))));kt_k;have S5y:=S4'.trans S5';have NAz:=NA13.same (S4y.trans S5');have NBz:=NB13.same (S4y.trans S5');kt_k;kt_k;refine i_test (aO (ai rfl (ai rfl (F5 (SqL.of (S5y _ _ uy)) (SqL.of ((Ty.trans S5y) _ _ hpx)) rfl (λj x y ex ey=>?_) {_,rfl,du ?_}))))
 ·rw[ex]at ey;cases ey;obtain⟨c,_,e⟩:=Qj.mp (Qg ex);subst e;exact .same
 refine i_test (aO (ai rfl (ai rfl (F4 (SqT.of NBz.ha) (SqT.of NAz.ha) rfl (wJ NAz NBz) {_,rfl,du ?_}))));kt_k;exact{⟨_,_,_,rfl⟩,SG2.trans (Ty.trans S5y)}
end
end K2
namespace K2
open PySem L2 PySem.Spec PyProof.Rows
variable {A:Type}
theorem Ar {us:List A} (h:us.length=1):∃a0,us=[a0]:=by
 match us,h with
 | [a0],_=>exact⟨_,rfl⟩
theorem Aq {us:List A} (h:us.length=2):∃a0 a1,us=[a0,a1]:=by
 match us,h with
 | [a0,a1],_=>exact⟨_,_,rfl⟩
theorem FZ {us:List A} (h:us.length=3):∃a0 a1 a2,us=[a0,a1,a2]:=by
 match us,h with
 | [a0,a1,a2],_=>exact⟨_,_,_,rfl⟩
theorem FY {us:List A} (h:us.length=4):∃a0 a1 a2 a3,us=[a0,a1,a2,a3]:=by
 match us,h with
 | [a0,a1,a2,a3],_=>exact⟨_,_,_,_,rfl⟩
structure FX (K:PySem.W.Frag) (n:Str) (i:Nat) (f:Addr) (cd:Value):Prop where
 a:PySem.W.nsIn K mainGlobals n=- -.ref f
 l:∃oc od kV dc pm an ct sl,K.lookup f=some {oc,od,.func (PySem.W.fnOf n n (dW (top i)) (cL (top i)) (aC (top i)) .none kV dc pm an cd ct),sl}
 c:PySem.W.codeIn K cd n=true
 k:PySem.W.keepIn K (.ref f)=true
variable {mg:J6} {f fa TL0:Addr} {K:PySem.W.Frag}
theorem FX.fn {n:Str} {i:Nat} {cd:Value} {h:Heap} (X:K.In h) (G:h.Ns mainGlobals mg) (x:FX K n i f cd):∃fd,Fun K n n (top i) f fd/\mg n=-.ref f:=by
 obtain⟨a,⟨_,_,_,_,_,_,_,_,l⟩,c,k⟩:=x;exact{_,r8 (st:=top i) l c k,PySem.W.mg_of X G a}
abbrev ZN (K:PySem.W.Frag) (n:Str):Prop:=PySem.W.nsIn K mainGlobals n=-none
variable {p:List Value->Prop}
theorem bn1 (h:∀a0,p [a0]) (us:List Value) (hl:us.length=1):p us:=by
 obtain⟨a0,e⟩:=Ar hl;subst e;exact h a0
theorem bn2 (h:∀a0 a1,p [a0,a1]) (us:List Value) (hl:us.length=2):p us:=by
 obtain⟨a0,a1,e⟩:=Aq hl;subst e;exact h a0 a1
theorem bn3 (h:∀a0 a1 a2,p [a0,a1,a2]) (us:List Value) (hl:us.length=3):p us:=by
 obtain⟨a0,a1,a2,e⟩:=FZ hl;subst e;exact h a0 a1 a2
theorem bn4 (h:∀a0 a1 a2 a3,p [a0,a1,a2,a3]) (us:List Value) (hl:us.length=4):p us:=by
 obtain⟨a0,a1,a2,a3,e⟩:=FY hl;subst e;exact h a0 a1 a2 a3
theorem FX.go (P:Program) (w:World) (base:Heap) {n:Str} {i k:Nat} {cd:Value} {h:Heap} {ps:List Str} {sp:Sp} (X:K.In h) (G:h.Ns mainGlobals mg) (x:FX K n i f cd) (o:∀fd,Fun K n n (top i) f fd->mg n=-.ref f->gN K fd ps []->FnOk P w K mg base CX0 k f fd ps sp)
  (hb:∀(kV doc pm:Value) (an:Option Addr) (cdv ct:Value) (us:List Value),us.length=ps.length->bindArgs (PySem.W.fnOf n n (dW (top i)) (cL (top i)) (aC (top i)) .none kV doc pm an cdv ct) {us,[]}=pure (ps.zip us):=by intro _ _ _ _ _ _;first|exact bn1 λ_=>rfl|exact bn2 λ_ _=>rfl|exact bn3 λ_ _ _=>rfl|exact bn4 λ_ _ _ _=>rfl):Fn P w K mg base n ps k sp:=by
 obtain⟨fd,F,m⟩:=x.fn X G;have b:=F.binds hb;exact{f,fd,o fd F m b,m,x.k,b}
theorem BE {l:PySem.W.OpenLaw} {w:World} {h:Heap} (X:K.In h) (G:h.Ns mainGlobals mg) (hfa:mg "law" = -.ref fa)
  (aT:PySem.W.nsIn K mainGlobals "TURNED" = - -.ref 40) (tab:sH K 40 [("0", .flat (.str "1")),("1", .flat (.str "0"))])
  (x0:FX K "is_pair" 5 47 (.ref 46)) (x1:FX K "is_whole" 6 54 (.ref 53)) (x2:FX K "is_row" 7 59 (.ref 58)) (x3:FX K "gates_of" 8 64 (.ref 63)) (x4:FX K "wires_of" 9 71 (.ref 70)) (x5:FX K "is_standing" 10 78 (.ref 77)) (x6:FX K "check_standing" 11 85 (.ref 84)) (x7:FX K "rule_holds" 12 92 (.ref 91)) (x8:FX K "rule_worth" 13 99 (.ref 98)) (x9:FX K "signs_in" 14 106 (.ref 105)) (x10:FX K "turned_at" 15 113 (.ref 112)) (x11:FX K "steps_from" 16 120 (.ref 119)) (x12:FX K "found_from" 18 127 (.ref 126)) (x13:FX K "steps_found" 19 134 (.ref 133))(h13:PySem.W.codeHdIn K 133 129=true) (x14:FX K "rests_in" 20 139 (.ref 138)) (x15:FX K "is_paper" 22 144 (.ref 143)) (x16:FX K "is_closed" 23 149 (.ref 148)) (x17:FX K "standings_ahead" 25 154 (.ref 153)) (x18:FX K "most_switchings" 26 159 (.ref 158)) (x19:FX K "rest_paper" 27 166 (.ref 165)) (x20:FX K "is_numbered" 28 173 (.ref 172)) (x21:FX K "is_rest_paper" 29 178 (.ref 177)) (x22:FX K "is_falling" 30 183 (.ref 182)) (x23:FX K "rest_shows" 31 188 (.ref 187)) (x24:FX K "_law_draws" 33 195 (.ref 194)) (x25:FX K "_law_names" 34 200 (.ref 199)) (x26:FX K "_law_rule" 35 207 (.ref 206)) (x27:FX K "_law_held" 36 214 (.ref 213)) (x28:FX K "_law_known" 37 219 (.ref 218)) (x29:FX K "_law_deeper" 38 226 (.ref 225)) (x30:FX K "_law_net" 39 233 (.ref 232)) (x31:FX K "_law_standing" 40 238 (.ref 237)) (x32:FX K "_law_holds" 41 245 (.ref 244)) (x33:FX K "_law_asked" 42 250 (.ref 249)) (x34:FX K "_law_ways" 43 255 (.ref 254)) (x35:FX K "_law_levels" 44 262 (.ref 261)) (x36:FX K "_law_shows" 46 272 (.ref 271)) (x37:FX K "_law_papers" 47 277 (.ref 276)) (x38:FX K "_law_bent" 48 284 (.ref 283)) (x39:FX K "_law_copy" 49 291 (.ref 290)) (x40:FX K "law" 50 296 (.ref 295))
  (z0:ZN K "len") (z1:ZN K "range") (z2:ZN K "max") (z3:ZN K "min") (z4:ZN K "int") (z5:ZN K "list") (z6:ZN K "str") (z7:ZN K "isinstance") (z8:ZN K "all") (z9:ZN K "set") (z10:ZN K "dict") (z11:ZN K "enumerate") (z12:ZN K "sorted") (z13:ZN K "tuple") (z14:ZN K "bool") (z15:ZN K "zip") (z16:ZN K "reversed") (z17:ZN K "abs")
  : ∃fd:FuncData,(∀(s:Shared) (v:Value),BindsTo s fd {[v],[]} [("script", v)])/\∀base:Heap,K.In base->base.Ns mainGlobals mg->L2.gO base mg->FnOk l.prog w K mg base CX0 18 fa fd ["script"] (sQ K 129):=by
 have e:=hfa.symm.trans (PySem.W.mg_of X G x40.a);cases e;have T:Txt K mg 40:={QZ X G z0,QZ X G z1,QZ X G z2,QZ X G z3,QZ X G z4,QZ X G z5,QZ X G z6,QZ X G z7,QZ X G z8,QZ X G z9,QZ X G z10,QZ X G z11,QZ X G z12,QZ X G z13,QZ X G z14,QZ X G z15,QZ X G z16,QZ X G z17,PySem.W.mg_of X G aT,tab};obtain⟨a13,⟨_,_,_,_,_,_,_,_,l13⟩,c13,k13⟩:=x13;have m13:=PySem.W.mg_of X G a13;have F13:=r8 (st:=top 19) l13 c13 k13;have b13:=F13.binds (ps:=["net", "standing"]) λ_ _ _ _ _ _ us hl=>by obtain⟨_,_,rfl⟩:=Aq hl;rfl
 obtain⟨a40,⟨_,_,kV,dc,pm,an,ct,_,l40⟩,c40,k40⟩:=x40;have m40:=PySem.W.mg_of X G a40;have F40:=r8 (st:=top 50) l40 c40 k40;have b40:=F40.binds (ps:=["script"]) λ_ _ _ _ _ _ us hl=>by obtain⟨_,rfl⟩:=Ar hl;rfl
 refine{PySem.W.fnOf "law" "law" (dW (top 50)) (cL (top 50)) (aC (top 50)) .none kV dc pm an (.ref 295) ct,λs v=>.of_eq rfl,λbase KB _ BM=>?_};have CT0:=PySem.W.codeHd_of_K KB h13;have FC13:FunC K "steps_found" "steps_found" (top 19) 134 _ 133:=⟨_,_,_,_,_,_,_,_,rfl,l13,c13⟩;have g24:=x24.go l.prog w base X G λ_ F _ _=>wC F T;have g25:=x25.go l.prog w base X G λ_ F _ _=>uK F T;have g27:=x27.go l.prog w base X G λ_ F _ _=>yw F T;have g28:=x28.go l.prog w base X G λ_ F _ _=>uM F T g27;have g26:=x26.go l.prog w base X G λ_ F m b=>qj F T m x26.k b 10;have g29:=x29.go l.prog w base X G λ_ F _ _=>uN F T;have g30:=x30.go l.prog w base X G λ_ F _ _=>yq F T g25 g28 g26 g29;have g39:=x39.go l.prog w base X G λ_ F _ _=>yy F T;have g31:=x31.go l.prog w base X G λ_ F _ _=>uG F T;have g32:=x32.go l.prog w base X G λ_ F m b=>mI F T m x32.k b 10;have g33:=x33.go l.prog w base X G λ_ F _ _=>rG F T g32;have g34:=x34.go l.prog w base X G λ_ F _ _=>yn F T g33;have g35:=x35.go l.prog w base X G λ_ F _ _=>uL F T;have g2:=x2.go l.prog w base X G λ_ F _ _=>Bi F T;have g5:=x5.go l.prog w base X G λ_ F _ _=>yt F T g2;have g6:=x6.go l.prog w base X G λ_ F _ _=>wD F T g5;have g12:=x12.go (sp:=(nB l.prog w K mg base 13)) l.prog w base X G λ_ F _ _=>wB F T;have g3:=x3.go l.prog w base X G λ_ F _ _=>wA F T;have g4:=x4.go l.prog w base X G λ_ F _ _=>ww F T g3;have g9:=x9.go l.prog w base X G λ_ F _ _=>rC F T g4;have g7:=x7.go l.prog w base X G λ_ F m b=>ql F T m x7.k b 10;have g8:=x8.go l.prog w base X G λ_ F _ _=>wv F T g7;have g10:=x10.go l.prog w base X G λ_ F _ _=>uF F T;have g11:=x11.go l.prog w base X G λ_ F _ _=>wy F T g9 g8 g10;have g13:Fn l.prog w K mg base "steps_found" ["net", "standing"] 15 (iG 129):={_,_,rB FC13 T CT0 BM g12 g11,m13,k13,b13};have g14:=x14.go l.prog w base X G λ_ F _ _=>rD F T;have g17:=x17.go l.prog w base X G λ_ F _ _=>wE F T;have g18:=x18.go l.prog w base X G λ_ F _ _=>yr F T g17 g14;have g19:=x19.go l.prog w base X G λ_ F _ _=>uJ F T g6 g13 g14 g18;have g37:=x37.go l.prog w base X G λ_ F _ _=>uI F T g34 g35 g19;have g38:=x38.go l.prog w base X G λ_ F _ _=>yz F T g31;have g0:=x0.go l.prog w base X G λ_ F _ _=>yo F T;have g1:=x1.go l.prog w base X G λ_ F _ _=>wx F T;have g20:=x20.go l.prog w base X G λ_ F _ _=>yp F T g0 g1;have g15:=x15.go l.prog w base X G λ_ F _ _=>rH F T g5;have g21:=x21.go l.prog w base X G λ_ F _ _=>yu F T g20 g15;have g16:=x16.go l.prog w base X G λ_ F _ _=>qk F T;have g22:=x22.go l.prog w base X G λ_ F _ _=>yx F T;have g23:=x23.go l.prog w base X G λ_ F _ _=>uH F T g6 g21 g11 g16 g22 g14;have g36:=x36.go l.prog w base X G λ_ F _ _=>rE F T g33;exact wz F40 T g24 g30 g39 g31 g34 g37 g38 g23 g36
theorem Gp {l:PySem.W.OpenLaw} {q:Program} {loose:List Str} {XP:J6->Heap->Prop} {d:DefRec} {K:Params->PySem.W.Frag} {as:J7} {e:∀P,as=(K P).map (·.1)} (hn:l.most=-63) (hdf:d.params.defaults=[]) (ok:∀w:World,iq (K w.params) [TL0]=true)
  (F:∀(w:World) (mg:J6) (fa:Addr) (h:Heap),(K w.params).In h->h.Ns mainGlobals mg->mg d.name=some (.ref fa) ->
   ∃fd:FuncData,(∀(s:Shared) (u:Value),BindsTo s fd {[u],[]} [("script", u)])/\∀base:Heap,(K w.params).In base->base.Ns mainGlobals mg->L2.gO base mg->FnOk l.prog w (K w.params) mg base CX0 18 fa fd ["script"] (sQ (K w.params) TL0)) :
  PySem.W.WalkO q loose XP (PySem.W.kmHook K as e [TL0]).says l.row.toRowW d [] (λf vs=>PySem.call f vs) :=
 L2.vn (n:=63) (k:=18) (x := "script") (CX:=λ_=>CX0) (sp:=λw=>sQ (K w.params) TL0) hn (by decide) hdf {rfl,by decide,by decide} ok F (λ_ _ a ns hl hT hS=>{a,ns,rfl,hS,hl,(.inl (hT _ (by simp))),λ_=>rfl}) λ_ _ _ _ _ z=>z
end K2
open PySem PySem.W PyProof.Rows
set_option maxRecDepth 100000 in
set_option maxHeartbeats 0 in
theorem PySem.Challenge.cw_anydelay_k23_papers_let_by_or_not_holds : PySem.Challenge.rw_anydelay_k23_papers_let_by_or_not.Holds := by
 w_on;refine holds_law K2.sd λsaid=>?_
 refine holds_open (q:=K2.vw) (loose:=[("TURNED" : Str)]) (Xt:=λs=>xlAt K2.vw [] s&&recOk (RowW.records PySem.Challenge.rw_anydelay_k23_papers_let_by_or_not.row.toRowW) s) (XP:=XL K2.vw []) (Yf:=Hook.obs K2.hk) (Ya:=Hook.val K2.hk) (YP:=Hook.says K2.hk) (N:=3590) K2.left (Hook.of K2.hk) (Hook.keeps K2.hk) (λs e=>xl_of s (Bool.and_eq_true_iff.mp e).1) XL.keeps (by rfl) (by rfl) (by rfl) (λs e=>recFacts_of (Bool.and_eq_true_iff.mp e).2) (by rfl) (by first|assumption|decide +kernel) (by decide +kernel) {rfl,rfl,rfl,rfl,rfl,by decide +kernel} ?hw ?hc
 (case hw=>w_witness2)
 refine K2.Gp (l:=PySem.Challenge.rw_anydelay_k23_papers_let_by_or_not) (K:=K2.KF) (as:=[3,40,46,47,53,54,58,59,63,64,70,71,77,78,84,85,91,92,98,99,105,106,112,113,119,120,126,127,133,134,138,139,143,144,148,149,153,154,158,159,165,166,172,173,177,178,182,183,187,188,194,195,199,200,206,207,213,214,218,219,225,226,232,233,237,238,244,245,249,250,254,255,261,262,271,272,276,277,283,284,290,291,295,296]) (e:=λ_=>rfl) rfl rfl (λw=>by kernel_rfl) ?F
 case F =>
  intro w mg fa h KX G hmg;refine' K2.BE KX G hmg ?_ ?_ ?_ ?_ ?_ ?_ ?_ ?_ ?_ ?_ ?_ ?_ ?_ ?_ ?_ ?_ ?_ ?_ ?_ ?_ ?_ ?_ ?_ ?_ ?_ ?_ ?_ ?_ ?_ ?_ ?_ ?_ ?_ ?_ ?_ ?_ ?_ ?_ ?_ ?_ ?_ ?_ ?_ ?_ ?_ ?_ ?_ ?_ ?_ ?_ ?_ ?_ ?_ ?_ ?_ ?_ ?_ ?_ ?_ ?_ ?_ ?_
  all_goals first|exact{by kernel_rfl,⟨_,_,_,_,_,_,_,_,rfl⟩,by kernel_rfl,by kernel_rfl}|kernel_rfl|rfl|decide|decide +kernel
